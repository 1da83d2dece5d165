/-
  What the operations of the program's machine do to it: a contract for each. Conditions: those that each names.
-/
import Derived.Test.YtoajommeiocfpaaGreatPMach
import Derived.Test.YtoajommeiocfpaaGreatCbpfGoes
import Derived.StillTailTactics
namespace Go.Proofs.YtoajommeiocfpaaGreat
open Go Go.RowKit
set_option linter.unusedSimpArgs false
set_option linter.unusedVariables false
set_option maxRecDepth 100000

theorem ins_box (w : World) (c : Int) (jt jf : Nat) (k : BitVec 32) : (w.alloc (insO c jt jf k)).rowIs w.heap.size 60 4 (insF ⟨c, jt, jf, k⟩) :=
  World.rowIs_alloc w #[.int .u16 c, .int .u8 (jt : Int), .int .u8 (jf : Int), .int .u32 (k.toNat : Int)] 60 _ (by
    iterate 4 (refine lt_more ?_ rfl)
    exact lt_zero)
theorem ins_cells {w : World} {g : Nat} {c : Int} {jt jf : Nat} {k : BitVec 32} (h : w.rowIs g 60 4 (insF ⟨c, jt, jf, k⟩)) : w.cell? ⟨g, 0, none⟩ = some (.int .u16 c) ∧ w.cell? ⟨g, 1, none⟩ = some (.int .u8 (jt : Int)) ∧ w.cell? ⟨g, 2, none⟩ = some (.int .u8 (jf : Int)) ∧ w.cell? ⟨g, 3, none⟩ = some (.int .u32 (k.toNat : Int)) :=
  ⟨h.cell (i := 0) (by decide), h.cell (i := 1) (by decide), h.cell (i := 2) (by decide), h.cell (i := 3) (by decide)⟩
/-- Which number an operation takes beside A. -/
def Opnd (c : Int) (k : BitVec 32) (s : Mach) (v : BitVec 32) : Prop := (bits .and .u16 c 8 = 0 ∧ v = k) ∨ (bits .and .u16 c 8 = 8 ∧ v = s.x)
section
variable (w : World) (b : Nat) (qv dv mv : Value) (s : Mach) (c : Int) (jt jf : Nat) (k v : BitVec 32)
theorem p_operand (h : PMAt w b qv dv mv s) (hv : Opnd c k s v) : Calls Tryz.prog 120 #[.pointer (some ⟨b, 0, none⟩), .agg #[.int .u16 c, .int .u8 (jt : Int), .int .u8 (jf : Int), .int .u32 (k.toNat : Int)]] w fun e w' => e = .returned (.int .u32 (v.toNat : Int)) ∧ w' = w.alloc (insO c jt jf k) := by
  rcases hv with ⟨hx, rfl⟩ | ⟨hx, rfl⟩
  · exact p_operand_k w b c jt jf v hx
  · exact p_operand_x w b qv dv mv s c jt jf k h hx
set_option maxHeartbeats 1000000 in
theorem p_add (h : PMAt w b qv dv mv s) (hv : Opnd c k s v) : Calls Tryz.prog 86 #[.pointer (some ⟨b, 0, none⟩), .agg #[.int .u16 c, .int .u8 (jt : Int), .int .u8 (jf : Int), .int .u32 (k.toNat : Int)]] w (OpP w b qv dv mv { s with a := s.a + v }) := by
  have hlt := World.rowIs.lt h
  have HM1 := Lib.hid (h.alloc (insO c jt jf k))
  have HD := Lib.hid (ins_box w c jt jf k)
  have G1 := Lib.hid (grown_alloc (World.grownBy.refl w (some b)) (insO c jt jf k))
  clear h
  go_enter Tryz.func86, Tryz.ntmps86
  go_wp2
  generalize w.alloc (insO c jt jf k) = W1 at HM1 HD G1 ⊢
  generalize w.heap.size = g at HD hlt ⊢
  have hne : ¬ b = g := by omega
  refine wp_region_held_drew (S := fun w' => w'.rowIs g 60 4 (insF ⟨c, jt, jf, k⟩)) (by kernel_rfl) HD.out (fun hHeld => ?_)
  have HM2 := Lib.hid HM1.out.drew
  have G2 : Hid (w.grownBy W1.drew (some b)) := Lib.hid (grown_drawn G1.out 1)
  clear HM1 HD G1
  generalize W1.drew = W2 at HM2 G2 hHeld ⊢
  have m3 : W2.cell? ⟨b, 3, none⟩ = some (.int .u32 (s.a.toNat : Int)) := World.rowIs.cell HM2.out (i := 3) (by decide)
  refine wpAnyH_take (i := 0) (v := ?_) rfl (by kernel_rfl) (by kernel_rfl) (by kernel_rfl) (fun _ _ _ h => h) (Or.inl ⟨by rfl, ?_⟩) (by assumption) ?_
  rotate_left
  · intro wS hSw
    (obtain ⟨q0, q1, q2, q3⟩ := ins_cells hSw; clear hSw)
    go_simp
    all_goals with_reducible rfl
  (try simp only [Act.put, List.setIfInBounds_toArray, List.set_cons_zero, List.set_cons_succ])
  refine wpAnyH_take (i := 1) (v := ?_) rfl (by kernel_rfl) (by kernel_rfl) (by kernel_rfl) (fun _ _ _ h => h) (Or.inl ⟨by rfl, ?_⟩) (by assumption) ?_
  rotate_left
  · intro wS hSw
    (obtain ⟨q0, q1, q2, q3⟩ := ins_cells hSw; clear hSw)
    go_simp
    all_goals with_reducible rfl
  (try simp only [Act.put, List.setIfInBounds_toArray, List.set_cons_zero, List.set_cons_succ])
  refine wpAnyH_take (i := 2) (v := ?_) rfl (by kernel_rfl) (by kernel_rfl) (by kernel_rfl) (fun _ _ _ h => h) (Or.inl ⟨by rfl, ?_⟩) (by assumption) ?_
  rotate_left
  · intro wS hSw
    (obtain ⟨q0, q1, q2, q3⟩ := ins_cells hSw; clear hSw)
    go_simp
    all_goals with_reducible rfl
  (try simp only [Act.put, List.setIfInBounds_toArray, List.set_cons_zero, List.set_cons_succ])
  refine wpAnyH_take (i := 4) (v := ?_) rfl (by kernel_rfl) (by kernel_rfl) (by kernel_rfl) (fun _ _ _ h => h) (Or.inl ⟨by rfl, ?_⟩) (by assumption) ?_
  rotate_left
  · intro wS hSw
    (obtain ⟨q0, q1, q2, q3⟩ := ins_cells hSw; clear hSw)
    go_simp
    all_goals with_reducible rfl
  (try simp only [Act.put, List.setIfInBounds_toArray, List.set_cons_zero, List.set_cons_succ])
  refine wpAnyH_take (i := 5) (v := ?_) rfl (by kernel_rfl) (by kernel_rfl) (by kernel_rfl) (fun _ _ _ h => h) (Or.inl ⟨by rfl, ?_⟩) (by assumption) ?_
  rotate_left
  · intro wS hSw
    (obtain ⟨q0, q1, q2, q3⟩ := ins_cells hSw; clear hSw)
    go_simp
    all_goals with_reducible rfl
  (try simp only [Act.put, List.setIfInBounds_toArray, List.set_cons_zero, List.set_cons_succ])
  refine wpAnyH_ready (rs := [3, 6]) (by kernel_rfl) (by simp) (AllReadyH.cons rfl (fun K hK => ?_) (AllReadyH.cons rfl (fun K hK => ?_) AllReadyH.nil))
  · go_simp
    refine hK.out _ _ hHeld (fun hHeld => ?_)
    clear hK K
    (try simp only [Act.put, List.setIfInBounds_toArray, List.set_cons_zero, List.set_cons_succ])
    refine held_one (i := 6) (by kernel_rfl) rfl (fun K hK => ?_)
    go_simp
    go_at_call 120
    refine (p_operand _ b qv dv mv s c jt jf k v HM2.out hv).mono ?_
    rintro e w4 ⟨rfl, rfl⟩
    refine hK.out _ _ (World.rowIs.alloc hHeld _) (fun hHeld => ?_)
    have HM3 := Lib.hid (HM2.out.alloc (insO c jt jf k))
    have G3 := Lib.hid (grown_alloc G2.out (insO c jt jf k))
    clear hK K HM2 G2 m3
    generalize W2.alloc (insO c jt jf k) = W3 at HM3 G3 hHeld ⊢
    have n3 : W3.cell? ⟨b, 3, none⟩ = some (.int .u32 (s.a.toNat : Int)) := World.rowIs.cell HM3.out (i := 3) (by decide)
    have z3 := World.rowIs.frozen HM3.out 3
    (try simp only [Act.put, List.setIfInBounds_toArray, List.set_cons_zero, List.set_cons_succ])
    refine wpAnyH_take (i := 7) (v := ?_) rfl (by kernel_rfl) (by kernel_rfl) (by kernel_rfl) (fun _ _ _ h => h) (Or.inl ⟨by rfl, ?_⟩) (by assumption) ?_
    rotate_left
    · intro wS hSw
      (skip)
      go_simp
      all_goals with_reducible rfl
    (try simp only [Act.put, List.setIfInBounds_toArray, List.set_cons_zero, List.set_cons_succ])
    refine wpAnyH_take (i := 8) (v := ?_) rfl (by kernel_rfl) (by kernel_rfl) (by kernel_rfl) (fun _ _ _ h => h) (Or.inl ⟨by rfl, ?_⟩) (by assumption) ?_
    rotate_left
    · intro wS hSw
      (skip)
      go_simp
      all_goals with_reducible rfl
    (try simp only [Act.put, List.setIfInBounds_toArray, List.set_cons_zero, List.set_cons_succ])
    refine wpAnyH_take (i := 9) (v := ?_) rfl (by kernel_rfl) (by kernel_rfl) (by kernel_rfl) (fun _ _ _ h => h) (Or.inl ⟨by rfl, ?_⟩) (by assumption) ?_
    rotate_left
    · intro wS hSw
      (skip)
      go_simp
      all_goals with_reducible rfl
    (try simp only [Act.put, List.setIfInBounds_toArray, List.set_cons_zero, List.set_cons_succ])
    refine held_one (i := 10) (by kernel_rfl) rfl (fun K hK => ?_)
    go_simp
    refine hK.out _ _ (World.rowIs.setOther hHeld (a := ⟨b, 3, none⟩) (fun e => hne e.symm) _) (fun _ => ?_)
    refine wpAnyH_done (by kernel_rfl) ?_ _
    go_wp2
    go_end0
    have q5 := HM3.out.set_a (s.a + v)
    rw [← add32 s.a v, IntKind.wrap_u32] at q5
    exact ⟨rfl, q5, grown_cell G3.out 3 _⟩
  · go_simp
    go_at_call 120
    refine (p_operand _ b qv dv mv s c jt jf k v HM2.out hv).mono ?_
    rintro e w4 ⟨rfl, rfl⟩
    refine hK.out _ _ (World.rowIs.alloc hHeld _) (fun hHeld => ?_)
    have HM3 := Lib.hid (HM2.out.alloc (insO c jt jf k))
    have G3 := Lib.hid (grown_alloc G2.out (insO c jt jf k))
    clear hK K HM2 G2 m3
    generalize W2.alloc (insO c jt jf k) = W3 at HM3 G3 hHeld ⊢
    have n3 : W3.cell? ⟨b, 3, none⟩ = some (.int .u32 (s.a.toNat : Int)) := World.rowIs.cell HM3.out (i := 3) (by decide)
    have z3 := World.rowIs.frozen HM3.out 3
    (try simp only [Act.put, List.setIfInBounds_toArray, List.set_cons_zero, List.set_cons_succ])
    refine held_one (i := 3) (by kernel_rfl) rfl (fun K hK => ?_)
    go_simp
    refine hK.out _ _ hHeld (fun hHeld => ?_)
    clear hK K
    (try simp only [Act.put, List.setIfInBounds_toArray, List.set_cons_zero, List.set_cons_succ])
    refine wpAnyH_take (i := 7) (v := ?_) rfl (by kernel_rfl) (by kernel_rfl) (by kernel_rfl) (fun _ _ _ h => h) (Or.inl ⟨by rfl, ?_⟩) (by assumption) ?_
    rotate_left
    · intro wS hSw
      (skip)
      go_simp
      all_goals with_reducible rfl
    (try simp only [Act.put, List.setIfInBounds_toArray, List.set_cons_zero, List.set_cons_succ])
    refine wpAnyH_take (i := 8) (v := ?_) rfl (by kernel_rfl) (by kernel_rfl) (by kernel_rfl) (fun _ _ _ h => h) (Or.inl ⟨by rfl, ?_⟩) (by assumption) ?_
    rotate_left
    · intro wS hSw
      (skip)
      go_simp
      all_goals with_reducible rfl
    (try simp only [Act.put, List.setIfInBounds_toArray, List.set_cons_zero, List.set_cons_succ])
    refine wpAnyH_take (i := 9) (v := ?_) rfl (by kernel_rfl) (by kernel_rfl) (by kernel_rfl) (fun _ _ _ h => h) (Or.inl ⟨by rfl, ?_⟩) (by assumption) ?_
    rotate_left
    · intro wS hSw
      (skip)
      go_simp
      all_goals with_reducible rfl
    (try simp only [Act.put, List.setIfInBounds_toArray, List.set_cons_zero, List.set_cons_succ])
    refine held_one (i := 10) (by kernel_rfl) rfl (fun K hK => ?_)
    go_simp
    refine hK.out _ _ (World.rowIs.setOther hHeld (a := ⟨b, 3, none⟩) (fun e => hne e.symm) _) (fun _ => ?_)
    refine wpAnyH_done (by kernel_rfl) ?_ _
    go_wp2
    go_end0
    have q5 := HM3.out.set_a (s.a + v)
    rw [← add32 s.a v, IntKind.wrap_u32] at q5
    exact ⟨rfl, q5, grown_cell G3.out 3 _⟩
set_option maxHeartbeats 1000000 in
theorem p_sub (h : PMAt w b qv dv mv s) (hv : Opnd c k s v) : Calls Tryz.prog 87 #[.pointer (some ⟨b, 0, none⟩), .agg #[.int .u16 c, .int .u8 (jt : Int), .int .u8 (jf : Int), .int .u32 (k.toNat : Int)]] w (OpP w b qv dv mv { s with a := s.a - v }) := by
  have hlt := World.rowIs.lt h
  have HM1 := Lib.hid (h.alloc (insO c jt jf k))
  have HD := Lib.hid (ins_box w c jt jf k)
  have G1 := Lib.hid (grown_alloc (World.grownBy.refl w (some b)) (insO c jt jf k))
  clear h
  go_enter Tryz.func87, Tryz.ntmps87
  go_wp2
  generalize w.alloc (insO c jt jf k) = W1 at HM1 HD G1 ⊢
  generalize w.heap.size = g at HD hlt ⊢
  have hne : ¬ b = g := by omega
  refine wp_region_held_drew (S := fun w' => w'.rowIs g 60 4 (insF ⟨c, jt, jf, k⟩)) (by kernel_rfl) HD.out (fun hHeld => ?_)
  have HM2 := Lib.hid HM1.out.drew
  have G2 : Hid (w.grownBy W1.drew (some b)) := Lib.hid (grown_drawn G1.out 1)
  clear HM1 HD G1
  generalize W1.drew = W2 at HM2 G2 hHeld ⊢
  have m3 : W2.cell? ⟨b, 3, none⟩ = some (.int .u32 (s.a.toNat : Int)) := World.rowIs.cell HM2.out (i := 3) (by decide)
  refine wpAnyH_take (i := 0) (v := ?_) rfl (by kernel_rfl) (by kernel_rfl) (by kernel_rfl) (fun _ _ _ h => h) (Or.inl ⟨by rfl, ?_⟩) (by assumption) ?_
  rotate_left
  · intro wS hSw
    (obtain ⟨q0, q1, q2, q3⟩ := ins_cells hSw; clear hSw)
    go_simp
    all_goals with_reducible rfl
  (try simp only [Act.put, List.setIfInBounds_toArray, List.set_cons_zero, List.set_cons_succ])
  refine wpAnyH_take (i := 1) (v := ?_) rfl (by kernel_rfl) (by kernel_rfl) (by kernel_rfl) (fun _ _ _ h => h) (Or.inl ⟨by rfl, ?_⟩) (by assumption) ?_
  rotate_left
  · intro wS hSw
    (obtain ⟨q0, q1, q2, q3⟩ := ins_cells hSw; clear hSw)
    go_simp
    all_goals with_reducible rfl
  (try simp only [Act.put, List.setIfInBounds_toArray, List.set_cons_zero, List.set_cons_succ])
  refine wpAnyH_take (i := 2) (v := ?_) rfl (by kernel_rfl) (by kernel_rfl) (by kernel_rfl) (fun _ _ _ h => h) (Or.inl ⟨by rfl, ?_⟩) (by assumption) ?_
  rotate_left
  · intro wS hSw
    (obtain ⟨q0, q1, q2, q3⟩ := ins_cells hSw; clear hSw)
    go_simp
    all_goals with_reducible rfl
  (try simp only [Act.put, List.setIfInBounds_toArray, List.set_cons_zero, List.set_cons_succ])
  refine wpAnyH_take (i := 4) (v := ?_) rfl (by kernel_rfl) (by kernel_rfl) (by kernel_rfl) (fun _ _ _ h => h) (Or.inl ⟨by rfl, ?_⟩) (by assumption) ?_
  rotate_left
  · intro wS hSw
    (obtain ⟨q0, q1, q2, q3⟩ := ins_cells hSw; clear hSw)
    go_simp
    all_goals with_reducible rfl
  (try simp only [Act.put, List.setIfInBounds_toArray, List.set_cons_zero, List.set_cons_succ])
  refine wpAnyH_take (i := 5) (v := ?_) rfl (by kernel_rfl) (by kernel_rfl) (by kernel_rfl) (fun _ _ _ h => h) (Or.inl ⟨by rfl, ?_⟩) (by assumption) ?_
  rotate_left
  · intro wS hSw
    (obtain ⟨q0, q1, q2, q3⟩ := ins_cells hSw; clear hSw)
    go_simp
    all_goals with_reducible rfl
  (try simp only [Act.put, List.setIfInBounds_toArray, List.set_cons_zero, List.set_cons_succ])
  refine wpAnyH_ready (rs := [3, 6]) (by kernel_rfl) (by simp) (AllReadyH.cons rfl (fun K hK => ?_) (AllReadyH.cons rfl (fun K hK => ?_) AllReadyH.nil))
  · go_simp
    refine hK.out _ _ hHeld (fun hHeld => ?_)
    clear hK K
    (try simp only [Act.put, List.setIfInBounds_toArray, List.set_cons_zero, List.set_cons_succ])
    refine held_one (i := 6) (by kernel_rfl) rfl (fun K hK => ?_)
    go_simp
    go_at_call 120
    refine (p_operand _ b qv dv mv s c jt jf k v HM2.out hv).mono ?_
    rintro e w4 ⟨rfl, rfl⟩
    refine hK.out _ _ (World.rowIs.alloc hHeld _) (fun hHeld => ?_)
    have HM3 := Lib.hid (HM2.out.alloc (insO c jt jf k))
    have G3 := Lib.hid (grown_alloc G2.out (insO c jt jf k))
    clear hK K HM2 G2 m3
    generalize W2.alloc (insO c jt jf k) = W3 at HM3 G3 hHeld ⊢
    have n3 : W3.cell? ⟨b, 3, none⟩ = some (.int .u32 (s.a.toNat : Int)) := World.rowIs.cell HM3.out (i := 3) (by decide)
    have z3 := World.rowIs.frozen HM3.out 3
    (try simp only [Act.put, List.setIfInBounds_toArray, List.set_cons_zero, List.set_cons_succ])
    refine wpAnyH_take (i := 7) (v := ?_) rfl (by kernel_rfl) (by kernel_rfl) (by kernel_rfl) (fun _ _ _ h => h) (Or.inl ⟨by rfl, ?_⟩) (by assumption) ?_
    rotate_left
    · intro wS hSw
      (skip)
      go_simp
      all_goals with_reducible rfl
    (try simp only [Act.put, List.setIfInBounds_toArray, List.set_cons_zero, List.set_cons_succ])
    refine wpAnyH_take (i := 8) (v := ?_) rfl (by kernel_rfl) (by kernel_rfl) (by kernel_rfl) (fun _ _ _ h => h) (Or.inl ⟨by rfl, ?_⟩) (by assumption) ?_
    rotate_left
    · intro wS hSw
      (skip)
      go_simp
      all_goals with_reducible rfl
    (try simp only [Act.put, List.setIfInBounds_toArray, List.set_cons_zero, List.set_cons_succ])
    refine wpAnyH_take (i := 9) (v := ?_) rfl (by kernel_rfl) (by kernel_rfl) (by kernel_rfl) (fun _ _ _ h => h) (Or.inl ⟨by rfl, ?_⟩) (by assumption) ?_
    rotate_left
    · intro wS hSw
      (skip)
      go_simp
      all_goals with_reducible rfl
    (try simp only [Act.put, List.setIfInBounds_toArray, List.set_cons_zero, List.set_cons_succ])
    refine held_one (i := 10) (by kernel_rfl) rfl (fun K hK => ?_)
    go_simp
    refine hK.out _ _ (World.rowIs.setOther hHeld (a := ⟨b, 3, none⟩) (fun e => hne e.symm) _) (fun _ => ?_)
    refine wpAnyH_done (by kernel_rfl) ?_ _
    go_wp2
    go_end0
    have q5 := HM3.out.set_a (s.a - v)
    rw [← sub32 s.a v, IntKind.wrap_u32] at q5
    exact ⟨rfl, q5, grown_cell G3.out 3 _⟩
  · go_simp
    go_at_call 120
    refine (p_operand _ b qv dv mv s c jt jf k v HM2.out hv).mono ?_
    rintro e w4 ⟨rfl, rfl⟩
    refine hK.out _ _ (World.rowIs.alloc hHeld _) (fun hHeld => ?_)
    have HM3 := Lib.hid (HM2.out.alloc (insO c jt jf k))
    have G3 := Lib.hid (grown_alloc G2.out (insO c jt jf k))
    clear hK K HM2 G2 m3
    generalize W2.alloc (insO c jt jf k) = W3 at HM3 G3 hHeld ⊢
    have n3 : W3.cell? ⟨b, 3, none⟩ = some (.int .u32 (s.a.toNat : Int)) := World.rowIs.cell HM3.out (i := 3) (by decide)
    have z3 := World.rowIs.frozen HM3.out 3
    (try simp only [Act.put, List.setIfInBounds_toArray, List.set_cons_zero, List.set_cons_succ])
    refine held_one (i := 3) (by kernel_rfl) rfl (fun K hK => ?_)
    go_simp
    refine hK.out _ _ hHeld (fun hHeld => ?_)
    clear hK K
    (try simp only [Act.put, List.setIfInBounds_toArray, List.set_cons_zero, List.set_cons_succ])
    refine wpAnyH_take (i := 7) (v := ?_) rfl (by kernel_rfl) (by kernel_rfl) (by kernel_rfl) (fun _ _ _ h => h) (Or.inl ⟨by rfl, ?_⟩) (by assumption) ?_
    rotate_left
    · intro wS hSw
      (skip)
      go_simp
      all_goals with_reducible rfl
    (try simp only [Act.put, List.setIfInBounds_toArray, List.set_cons_zero, List.set_cons_succ])
    refine wpAnyH_take (i := 8) (v := ?_) rfl (by kernel_rfl) (by kernel_rfl) (by kernel_rfl) (fun _ _ _ h => h) (Or.inl ⟨by rfl, ?_⟩) (by assumption) ?_
    rotate_left
    · intro wS hSw
      (skip)
      go_simp
      all_goals with_reducible rfl
    (try simp only [Act.put, List.setIfInBounds_toArray, List.set_cons_zero, List.set_cons_succ])
    refine wpAnyH_take (i := 9) (v := ?_) rfl (by kernel_rfl) (by kernel_rfl) (by kernel_rfl) (fun _ _ _ h => h) (Or.inl ⟨by rfl, ?_⟩) (by assumption) ?_
    rotate_left
    · intro wS hSw
      (skip)
      go_simp
      all_goals with_reducible rfl
    (try simp only [Act.put, List.setIfInBounds_toArray, List.set_cons_zero, List.set_cons_succ])
    refine held_one (i := 10) (by kernel_rfl) rfl (fun K hK => ?_)
    go_simp
    refine hK.out _ _ (World.rowIs.setOther hHeld (a := ⟨b, 3, none⟩) (fun e => hne e.symm) _) (fun _ => ?_)
    refine wpAnyH_done (by kernel_rfl) ?_ _
    go_wp2
    go_end0
    have q5 := HM3.out.set_a (s.a - v)
    rw [← sub32 s.a v, IntKind.wrap_u32] at q5
    exact ⟨rfl, q5, grown_cell G3.out 3 _⟩
set_option maxHeartbeats 1000000 in
theorem p_mul (h : PMAt w b qv dv mv s) (hv : Opnd c k s v) : Calls Tryz.prog 88 #[.pointer (some ⟨b, 0, none⟩), .agg #[.int .u16 c, .int .u8 (jt : Int), .int .u8 (jf : Int), .int .u32 (k.toNat : Int)]] w (OpP w b qv dv mv { s with a := s.a * v }) := by
  have hlt := World.rowIs.lt h
  have HM1 := Lib.hid (h.alloc (insO c jt jf k))
  have HD := Lib.hid (ins_box w c jt jf k)
  have G1 := Lib.hid (grown_alloc (World.grownBy.refl w (some b)) (insO c jt jf k))
  clear h
  go_enter Tryz.func88, Tryz.ntmps88
  go_wp2
  generalize w.alloc (insO c jt jf k) = W1 at HM1 HD G1 ⊢
  generalize w.heap.size = g at HD hlt ⊢
  have hne : ¬ b = g := by omega
  refine wp_region_held_drew (S := fun w' => w'.rowIs g 60 4 (insF ⟨c, jt, jf, k⟩)) (by kernel_rfl) HD.out (fun hHeld => ?_)
  have HM2 := Lib.hid HM1.out.drew
  have G2 : Hid (w.grownBy W1.drew (some b)) := Lib.hid (grown_drawn G1.out 1)
  clear HM1 HD G1
  generalize W1.drew = W2 at HM2 G2 hHeld ⊢
  have m3 : W2.cell? ⟨b, 3, none⟩ = some (.int .u32 (s.a.toNat : Int)) := World.rowIs.cell HM2.out (i := 3) (by decide)
  refine wpAnyH_take (i := 0) (v := ?_) rfl (by kernel_rfl) (by kernel_rfl) (by kernel_rfl) (fun _ _ _ h => h) (Or.inl ⟨by rfl, ?_⟩) (by assumption) ?_
  rotate_left
  · intro wS hSw
    (obtain ⟨q0, q1, q2, q3⟩ := ins_cells hSw; clear hSw)
    go_simp
    all_goals with_reducible rfl
  (try simp only [Act.put, List.setIfInBounds_toArray, List.set_cons_zero, List.set_cons_succ])
  refine wpAnyH_take (i := 1) (v := ?_) rfl (by kernel_rfl) (by kernel_rfl) (by kernel_rfl) (fun _ _ _ h => h) (Or.inl ⟨by rfl, ?_⟩) (by assumption) ?_
  rotate_left
  · intro wS hSw
    (obtain ⟨q0, q1, q2, q3⟩ := ins_cells hSw; clear hSw)
    go_simp
    all_goals with_reducible rfl
  (try simp only [Act.put, List.setIfInBounds_toArray, List.set_cons_zero, List.set_cons_succ])
  refine wpAnyH_take (i := 2) (v := ?_) rfl (by kernel_rfl) (by kernel_rfl) (by kernel_rfl) (fun _ _ _ h => h) (Or.inl ⟨by rfl, ?_⟩) (by assumption) ?_
  rotate_left
  · intro wS hSw
    (obtain ⟨q0, q1, q2, q3⟩ := ins_cells hSw; clear hSw)
    go_simp
    all_goals with_reducible rfl
  (try simp only [Act.put, List.setIfInBounds_toArray, List.set_cons_zero, List.set_cons_succ])
  refine wpAnyH_take (i := 4) (v := ?_) rfl (by kernel_rfl) (by kernel_rfl) (by kernel_rfl) (fun _ _ _ h => h) (Or.inl ⟨by rfl, ?_⟩) (by assumption) ?_
  rotate_left
  · intro wS hSw
    (obtain ⟨q0, q1, q2, q3⟩ := ins_cells hSw; clear hSw)
    go_simp
    all_goals with_reducible rfl
  (try simp only [Act.put, List.setIfInBounds_toArray, List.set_cons_zero, List.set_cons_succ])
  refine wpAnyH_take (i := 5) (v := ?_) rfl (by kernel_rfl) (by kernel_rfl) (by kernel_rfl) (fun _ _ _ h => h) (Or.inl ⟨by rfl, ?_⟩) (by assumption) ?_
  rotate_left
  · intro wS hSw
    (obtain ⟨q0, q1, q2, q3⟩ := ins_cells hSw; clear hSw)
    go_simp
    all_goals with_reducible rfl
  (try simp only [Act.put, List.setIfInBounds_toArray, List.set_cons_zero, List.set_cons_succ])
  refine wpAnyH_ready (rs := [3, 6]) (by kernel_rfl) (by simp) (AllReadyH.cons rfl (fun K hK => ?_) (AllReadyH.cons rfl (fun K hK => ?_) AllReadyH.nil))
  · go_simp
    refine hK.out _ _ hHeld (fun hHeld => ?_)
    clear hK K
    (try simp only [Act.put, List.setIfInBounds_toArray, List.set_cons_zero, List.set_cons_succ])
    refine held_one (i := 6) (by kernel_rfl) rfl (fun K hK => ?_)
    go_simp
    go_at_call 120
    refine (p_operand _ b qv dv mv s c jt jf k v HM2.out hv).mono ?_
    rintro e w4 ⟨rfl, rfl⟩
    refine hK.out _ _ (World.rowIs.alloc hHeld _) (fun hHeld => ?_)
    have HM3 := Lib.hid (HM2.out.alloc (insO c jt jf k))
    have G3 := Lib.hid (grown_alloc G2.out (insO c jt jf k))
    clear hK K HM2 G2 m3
    generalize W2.alloc (insO c jt jf k) = W3 at HM3 G3 hHeld ⊢
    have n3 : W3.cell? ⟨b, 3, none⟩ = some (.int .u32 (s.a.toNat : Int)) := World.rowIs.cell HM3.out (i := 3) (by decide)
    have z3 := World.rowIs.frozen HM3.out 3
    (try simp only [Act.put, List.setIfInBounds_toArray, List.set_cons_zero, List.set_cons_succ])
    refine wpAnyH_take (i := 7) (v := ?_) rfl (by kernel_rfl) (by kernel_rfl) (by kernel_rfl) (fun _ _ _ h => h) (Or.inl ⟨by rfl, ?_⟩) (by assumption) ?_
    rotate_left
    · intro wS hSw
      (skip)
      go_simp
      all_goals with_reducible rfl
    (try simp only [Act.put, List.setIfInBounds_toArray, List.set_cons_zero, List.set_cons_succ])
    refine wpAnyH_take (i := 8) (v := ?_) rfl (by kernel_rfl) (by kernel_rfl) (by kernel_rfl) (fun _ _ _ h => h) (Or.inl ⟨by rfl, ?_⟩) (by assumption) ?_
    rotate_left
    · intro wS hSw
      (skip)
      go_simp
      all_goals with_reducible rfl
    (try simp only [Act.put, List.setIfInBounds_toArray, List.set_cons_zero, List.set_cons_succ])
    refine wpAnyH_take (i := 9) (v := ?_) rfl (by kernel_rfl) (by kernel_rfl) (by kernel_rfl) (fun _ _ _ h => h) (Or.inl ⟨by rfl, ?_⟩) (by assumption) ?_
    rotate_left
    · intro wS hSw
      (skip)
      go_simp
      all_goals with_reducible rfl
    (try simp only [Act.put, List.setIfInBounds_toArray, List.set_cons_zero, List.set_cons_succ])
    refine held_one (i := 10) (by kernel_rfl) rfl (fun K hK => ?_)
    go_simp
    refine hK.out _ _ (World.rowIs.setOther hHeld (a := ⟨b, 3, none⟩) (fun e => hne e.symm) _) (fun _ => ?_)
    refine wpAnyH_done (by kernel_rfl) ?_ _
    go_wp2
    go_end0
    have q5 := HM3.out.set_a (s.a * v)
    rw [← mul32 s.a v, IntKind.wrap_u32] at q5
    exact ⟨rfl, q5, grown_cell G3.out 3 _⟩
  · go_simp
    go_at_call 120
    refine (p_operand _ b qv dv mv s c jt jf k v HM2.out hv).mono ?_
    rintro e w4 ⟨rfl, rfl⟩
    refine hK.out _ _ (World.rowIs.alloc hHeld _) (fun hHeld => ?_)
    have HM3 := Lib.hid (HM2.out.alloc (insO c jt jf k))
    have G3 := Lib.hid (grown_alloc G2.out (insO c jt jf k))
    clear hK K HM2 G2 m3
    generalize W2.alloc (insO c jt jf k) = W3 at HM3 G3 hHeld ⊢
    have n3 : W3.cell? ⟨b, 3, none⟩ = some (.int .u32 (s.a.toNat : Int)) := World.rowIs.cell HM3.out (i := 3) (by decide)
    have z3 := World.rowIs.frozen HM3.out 3
    (try simp only [Act.put, List.setIfInBounds_toArray, List.set_cons_zero, List.set_cons_succ])
    refine held_one (i := 3) (by kernel_rfl) rfl (fun K hK => ?_)
    go_simp
    refine hK.out _ _ hHeld (fun hHeld => ?_)
    clear hK K
    (try simp only [Act.put, List.setIfInBounds_toArray, List.set_cons_zero, List.set_cons_succ])
    refine wpAnyH_take (i := 7) (v := ?_) rfl (by kernel_rfl) (by kernel_rfl) (by kernel_rfl) (fun _ _ _ h => h) (Or.inl ⟨by rfl, ?_⟩) (by assumption) ?_
    rotate_left
    · intro wS hSw
      (skip)
      go_simp
      all_goals with_reducible rfl
    (try simp only [Act.put, List.setIfInBounds_toArray, List.set_cons_zero, List.set_cons_succ])
    refine wpAnyH_take (i := 8) (v := ?_) rfl (by kernel_rfl) (by kernel_rfl) (by kernel_rfl) (fun _ _ _ h => h) (Or.inl ⟨by rfl, ?_⟩) (by assumption) ?_
    rotate_left
    · intro wS hSw
      (skip)
      go_simp
      all_goals with_reducible rfl
    (try simp only [Act.put, List.setIfInBounds_toArray, List.set_cons_zero, List.set_cons_succ])
    refine wpAnyH_take (i := 9) (v := ?_) rfl (by kernel_rfl) (by kernel_rfl) (by kernel_rfl) (fun _ _ _ h => h) (Or.inl ⟨by rfl, ?_⟩) (by assumption) ?_
    rotate_left
    · intro wS hSw
      (skip)
      go_simp
      all_goals with_reducible rfl
    (try simp only [Act.put, List.setIfInBounds_toArray, List.set_cons_zero, List.set_cons_succ])
    refine held_one (i := 10) (by kernel_rfl) rfl (fun K hK => ?_)
    go_simp
    refine hK.out _ _ (World.rowIs.setOther hHeld (a := ⟨b, 3, none⟩) (fun e => hne e.symm) _) (fun _ => ?_)
    refine wpAnyH_done (by kernel_rfl) ?_ _
    go_wp2
    go_end0
    have q5 := HM3.out.set_a (s.a * v)
    rw [← mul32 s.a v, IntKind.wrap_u32] at q5
    exact ⟨rfl, q5, grown_cell G3.out 3 _⟩
set_option maxHeartbeats 1000000 in
theorem p_or (h : PMAt w b qv dv mv s) (hv : Opnd c k s v) : Calls Tryz.prog 90 #[.pointer (some ⟨b, 0, none⟩), .agg #[.int .u16 c, .int .u8 (jt : Int), .int .u8 (jf : Int), .int .u32 (k.toNat : Int)]] w (OpP w b qv dv mv { s with a := s.a ||| v }) := by
  have hlt := World.rowIs.lt h
  have HM1 := Lib.hid (h.alloc (insO c jt jf k))
  have HD := Lib.hid (ins_box w c jt jf k)
  have G1 := Lib.hid (grown_alloc (World.grownBy.refl w (some b)) (insO c jt jf k))
  have e1 := or32 s.a v
  clear h
  go_enter Tryz.func90, Tryz.ntmps90
  go_wp2
  generalize w.alloc (insO c jt jf k) = W1 at HM1 HD G1 ⊢
  generalize w.heap.size = g at HD hlt ⊢
  have hne : ¬ b = g := by omega
  refine wp_region_held_drew (S := fun w' => w'.rowIs g 60 4 (insF ⟨c, jt, jf, k⟩)) (by kernel_rfl) HD.out (fun hHeld => ?_)
  have HM2 := Lib.hid HM1.out.drew
  have G2 : Hid (w.grownBy W1.drew (some b)) := Lib.hid (grown_drawn G1.out 1)
  clear HM1 HD G1
  generalize W1.drew = W2 at HM2 G2 hHeld ⊢
  have m3 : W2.cell? ⟨b, 3, none⟩ = some (.int .u32 (s.a.toNat : Int)) := World.rowIs.cell HM2.out (i := 3) (by decide)
  refine wpAnyH_take (i := 0) (v := ?_) rfl (by kernel_rfl) (by kernel_rfl) (by kernel_rfl) (fun _ _ _ h => h) (Or.inl ⟨by rfl, ?_⟩) (by assumption) ?_
  rotate_left
  · intro wS hSw
    (obtain ⟨q0, q1, q2, q3⟩ := ins_cells hSw; clear hSw)
    go_simp
    all_goals with_reducible rfl
  (try simp only [Act.put, List.setIfInBounds_toArray, List.set_cons_zero, List.set_cons_succ])
  refine wpAnyH_take (i := 1) (v := ?_) rfl (by kernel_rfl) (by kernel_rfl) (by kernel_rfl) (fun _ _ _ h => h) (Or.inl ⟨by rfl, ?_⟩) (by assumption) ?_
  rotate_left
  · intro wS hSw
    (obtain ⟨q0, q1, q2, q3⟩ := ins_cells hSw; clear hSw)
    go_simp
    all_goals with_reducible rfl
  (try simp only [Act.put, List.setIfInBounds_toArray, List.set_cons_zero, List.set_cons_succ])
  refine wpAnyH_take (i := 2) (v := ?_) rfl (by kernel_rfl) (by kernel_rfl) (by kernel_rfl) (fun _ _ _ h => h) (Or.inl ⟨by rfl, ?_⟩) (by assumption) ?_
  rotate_left
  · intro wS hSw
    (obtain ⟨q0, q1, q2, q3⟩ := ins_cells hSw; clear hSw)
    go_simp
    all_goals with_reducible rfl
  (try simp only [Act.put, List.setIfInBounds_toArray, List.set_cons_zero, List.set_cons_succ])
  refine wpAnyH_take (i := 4) (v := ?_) rfl (by kernel_rfl) (by kernel_rfl) (by kernel_rfl) (fun _ _ _ h => h) (Or.inl ⟨by rfl, ?_⟩) (by assumption) ?_
  rotate_left
  · intro wS hSw
    (obtain ⟨q0, q1, q2, q3⟩ := ins_cells hSw; clear hSw)
    go_simp
    all_goals with_reducible rfl
  (try simp only [Act.put, List.setIfInBounds_toArray, List.set_cons_zero, List.set_cons_succ])
  refine wpAnyH_take (i := 5) (v := ?_) rfl (by kernel_rfl) (by kernel_rfl) (by kernel_rfl) (fun _ _ _ h => h) (Or.inl ⟨by rfl, ?_⟩) (by assumption) ?_
  rotate_left
  · intro wS hSw
    (obtain ⟨q0, q1, q2, q3⟩ := ins_cells hSw; clear hSw)
    go_simp
    all_goals with_reducible rfl
  (try simp only [Act.put, List.setIfInBounds_toArray, List.set_cons_zero, List.set_cons_succ])
  refine wpAnyH_ready (rs := [3, 6]) (by kernel_rfl) (by simp) (AllReadyH.cons rfl (fun K hK => ?_) (AllReadyH.cons rfl (fun K hK => ?_) AllReadyH.nil))
  · go_simp
    refine hK.out _ _ hHeld (fun hHeld => ?_)
    clear hK K
    (try simp only [Act.put, List.setIfInBounds_toArray, List.set_cons_zero, List.set_cons_succ])
    refine held_one (i := 6) (by kernel_rfl) rfl (fun K hK => ?_)
    go_simp
    go_at_call 120
    refine (p_operand _ b qv dv mv s c jt jf k v HM2.out hv).mono ?_
    rintro e w4 ⟨rfl, rfl⟩
    refine hK.out _ _ (World.rowIs.alloc hHeld _) (fun hHeld => ?_)
    have HM3 := Lib.hid (HM2.out.alloc (insO c jt jf k))
    have G3 := Lib.hid (grown_alloc G2.out (insO c jt jf k))
    clear hK K HM2 G2 m3
    generalize W2.alloc (insO c jt jf k) = W3 at HM3 G3 hHeld ⊢
    have n3 : W3.cell? ⟨b, 3, none⟩ = some (.int .u32 (s.a.toNat : Int)) := World.rowIs.cell HM3.out (i := 3) (by decide)
    have z3 := World.rowIs.frozen HM3.out 3
    (try simp only [Act.put, List.setIfInBounds_toArray, List.set_cons_zero, List.set_cons_succ])
    refine wpAnyH_take (i := 7) (v := ?_) rfl (by kernel_rfl) (by kernel_rfl) (by kernel_rfl) (fun _ _ _ h => h) (Or.inl ⟨by rfl, ?_⟩) (by assumption) ?_
    rotate_left
    · intro wS hSw
      (skip)
      go_simp
      all_goals with_reducible rfl
    (try simp only [Act.put, List.setIfInBounds_toArray, List.set_cons_zero, List.set_cons_succ])
    refine wpAnyH_take (i := 8) (v := ?_) rfl (by kernel_rfl) (by kernel_rfl) (by kernel_rfl) (fun _ _ _ h => h) (Or.inl ⟨by rfl, ?_⟩) (by assumption) ?_
    rotate_left
    · intro wS hSw
      (skip)
      go_simp
      all_goals with_reducible rfl
    (try simp only [Act.put, List.setIfInBounds_toArray, List.set_cons_zero, List.set_cons_succ])
    refine wpAnyH_take (i := 9) (v := ?_) rfl (by kernel_rfl) (by kernel_rfl) (by kernel_rfl) (fun _ _ _ h => h) (Or.inl ⟨by rfl, ?_⟩) (by assumption) ?_
    rotate_left
    · intro wS hSw
      (skip)
      go_simp
      all_goals with_reducible rfl
    (try simp only [Act.put, List.setIfInBounds_toArray, List.set_cons_zero, List.set_cons_succ])
    refine held_one (i := 10) (by kernel_rfl) rfl (fun K hK => ?_)
    go_simp
    refine hK.out _ _ (World.rowIs.setOther hHeld (a := ⟨b, 3, none⟩) (fun e => hne e.symm) _) (fun _ => ?_)
    refine wpAnyH_done (by kernel_rfl) ?_ _
    go_wp2
    go_end0
    have q5 := HM3.out.set_a (s.a ||| v)
    exact ⟨rfl, q5, grown_cell G3.out 3 _⟩
  · go_simp
    go_at_call 120
    refine (p_operand _ b qv dv mv s c jt jf k v HM2.out hv).mono ?_
    rintro e w4 ⟨rfl, rfl⟩
    refine hK.out _ _ (World.rowIs.alloc hHeld _) (fun hHeld => ?_)
    have HM3 := Lib.hid (HM2.out.alloc (insO c jt jf k))
    have G3 := Lib.hid (grown_alloc G2.out (insO c jt jf k))
    clear hK K HM2 G2 m3
    generalize W2.alloc (insO c jt jf k) = W3 at HM3 G3 hHeld ⊢
    have n3 : W3.cell? ⟨b, 3, none⟩ = some (.int .u32 (s.a.toNat : Int)) := World.rowIs.cell HM3.out (i := 3) (by decide)
    have z3 := World.rowIs.frozen HM3.out 3
    (try simp only [Act.put, List.setIfInBounds_toArray, List.set_cons_zero, List.set_cons_succ])
    refine held_one (i := 3) (by kernel_rfl) rfl (fun K hK => ?_)
    go_simp
    refine hK.out _ _ hHeld (fun hHeld => ?_)
    clear hK K
    (try simp only [Act.put, List.setIfInBounds_toArray, List.set_cons_zero, List.set_cons_succ])
    refine wpAnyH_take (i := 7) (v := ?_) rfl (by kernel_rfl) (by kernel_rfl) (by kernel_rfl) (fun _ _ _ h => h) (Or.inl ⟨by rfl, ?_⟩) (by assumption) ?_
    rotate_left
    · intro wS hSw
      (skip)
      go_simp
      all_goals with_reducible rfl
    (try simp only [Act.put, List.setIfInBounds_toArray, List.set_cons_zero, List.set_cons_succ])
    refine wpAnyH_take (i := 8) (v := ?_) rfl (by kernel_rfl) (by kernel_rfl) (by kernel_rfl) (fun _ _ _ h => h) (Or.inl ⟨by rfl, ?_⟩) (by assumption) ?_
    rotate_left
    · intro wS hSw
      (skip)
      go_simp
      all_goals with_reducible rfl
    (try simp only [Act.put, List.setIfInBounds_toArray, List.set_cons_zero, List.set_cons_succ])
    refine wpAnyH_take (i := 9) (v := ?_) rfl (by kernel_rfl) (by kernel_rfl) (by kernel_rfl) (fun _ _ _ h => h) (Or.inl ⟨by rfl, ?_⟩) (by assumption) ?_
    rotate_left
    · intro wS hSw
      (skip)
      go_simp
      all_goals with_reducible rfl
    (try simp only [Act.put, List.setIfInBounds_toArray, List.set_cons_zero, List.set_cons_succ])
    refine held_one (i := 10) (by kernel_rfl) rfl (fun K hK => ?_)
    go_simp
    refine hK.out _ _ (World.rowIs.setOther hHeld (a := ⟨b, 3, none⟩) (fun e => hne e.symm) _) (fun _ => ?_)
    refine wpAnyH_done (by kernel_rfl) ?_ _
    go_wp2
    go_end0
    have q5 := HM3.out.set_a (s.a ||| v)
    exact ⟨rfl, q5, grown_cell G3.out 3 _⟩
set_option maxHeartbeats 1000000 in
theorem p_and (h : PMAt w b qv dv mv s) (hv : Opnd c k s v) : Calls Tryz.prog 91 #[.pointer (some ⟨b, 0, none⟩), .agg #[.int .u16 c, .int .u8 (jt : Int), .int .u8 (jf : Int), .int .u32 (k.toNat : Int)]] w (OpP w b qv dv mv { s with a := s.a &&& v }) := by
  have hlt := World.rowIs.lt h
  have HM1 := Lib.hid (h.alloc (insO c jt jf k))
  have HD := Lib.hid (ins_box w c jt jf k)
  have G1 := Lib.hid (grown_alloc (World.grownBy.refl w (some b)) (insO c jt jf k))
  have e1 := and32 s.a v
  clear h
  go_enter Tryz.func91, Tryz.ntmps91
  go_wp2
  generalize w.alloc (insO c jt jf k) = W1 at HM1 HD G1 ⊢
  generalize w.heap.size = g at HD hlt ⊢
  have hne : ¬ b = g := by omega
  refine wp_region_held_drew (S := fun w' => w'.rowIs g 60 4 (insF ⟨c, jt, jf, k⟩)) (by kernel_rfl) HD.out (fun hHeld => ?_)
  have HM2 := Lib.hid HM1.out.drew
  have G2 : Hid (w.grownBy W1.drew (some b)) := Lib.hid (grown_drawn G1.out 1)
  clear HM1 HD G1
  generalize W1.drew = W2 at HM2 G2 hHeld ⊢
  have m3 : W2.cell? ⟨b, 3, none⟩ = some (.int .u32 (s.a.toNat : Int)) := World.rowIs.cell HM2.out (i := 3) (by decide)
  refine wpAnyH_take (i := 0) (v := ?_) rfl (by kernel_rfl) (by kernel_rfl) (by kernel_rfl) (fun _ _ _ h => h) (Or.inl ⟨by rfl, ?_⟩) (by assumption) ?_
  rotate_left
  · intro wS hSw
    (obtain ⟨q0, q1, q2, q3⟩ := ins_cells hSw; clear hSw)
    go_simp
    all_goals with_reducible rfl
  (try simp only [Act.put, List.setIfInBounds_toArray, List.set_cons_zero, List.set_cons_succ])
  refine wpAnyH_take (i := 1) (v := ?_) rfl (by kernel_rfl) (by kernel_rfl) (by kernel_rfl) (fun _ _ _ h => h) (Or.inl ⟨by rfl, ?_⟩) (by assumption) ?_
  rotate_left
  · intro wS hSw
    (obtain ⟨q0, q1, q2, q3⟩ := ins_cells hSw; clear hSw)
    go_simp
    all_goals with_reducible rfl
  (try simp only [Act.put, List.setIfInBounds_toArray, List.set_cons_zero, List.set_cons_succ])
  refine wpAnyH_take (i := 2) (v := ?_) rfl (by kernel_rfl) (by kernel_rfl) (by kernel_rfl) (fun _ _ _ h => h) (Or.inl ⟨by rfl, ?_⟩) (by assumption) ?_
  rotate_left
  · intro wS hSw
    (obtain ⟨q0, q1, q2, q3⟩ := ins_cells hSw; clear hSw)
    go_simp
    all_goals with_reducible rfl
  (try simp only [Act.put, List.setIfInBounds_toArray, List.set_cons_zero, List.set_cons_succ])
  refine wpAnyH_take (i := 4) (v := ?_) rfl (by kernel_rfl) (by kernel_rfl) (by kernel_rfl) (fun _ _ _ h => h) (Or.inl ⟨by rfl, ?_⟩) (by assumption) ?_
  rotate_left
  · intro wS hSw
    (obtain ⟨q0, q1, q2, q3⟩ := ins_cells hSw; clear hSw)
    go_simp
    all_goals with_reducible rfl
  (try simp only [Act.put, List.setIfInBounds_toArray, List.set_cons_zero, List.set_cons_succ])
  refine wpAnyH_take (i := 5) (v := ?_) rfl (by kernel_rfl) (by kernel_rfl) (by kernel_rfl) (fun _ _ _ h => h) (Or.inl ⟨by rfl, ?_⟩) (by assumption) ?_
  rotate_left
  · intro wS hSw
    (obtain ⟨q0, q1, q2, q3⟩ := ins_cells hSw; clear hSw)
    go_simp
    all_goals with_reducible rfl
  (try simp only [Act.put, List.setIfInBounds_toArray, List.set_cons_zero, List.set_cons_succ])
  refine wpAnyH_ready (rs := [3, 6]) (by kernel_rfl) (by simp) (AllReadyH.cons rfl (fun K hK => ?_) (AllReadyH.cons rfl (fun K hK => ?_) AllReadyH.nil))
  · go_simp
    refine hK.out _ _ hHeld (fun hHeld => ?_)
    clear hK K
    (try simp only [Act.put, List.setIfInBounds_toArray, List.set_cons_zero, List.set_cons_succ])
    refine held_one (i := 6) (by kernel_rfl) rfl (fun K hK => ?_)
    go_simp
    go_at_call 120
    refine (p_operand _ b qv dv mv s c jt jf k v HM2.out hv).mono ?_
    rintro e w4 ⟨rfl, rfl⟩
    refine hK.out _ _ (World.rowIs.alloc hHeld _) (fun hHeld => ?_)
    have HM3 := Lib.hid (HM2.out.alloc (insO c jt jf k))
    have G3 := Lib.hid (grown_alloc G2.out (insO c jt jf k))
    clear hK K HM2 G2 m3
    generalize W2.alloc (insO c jt jf k) = W3 at HM3 G3 hHeld ⊢
    have n3 : W3.cell? ⟨b, 3, none⟩ = some (.int .u32 (s.a.toNat : Int)) := World.rowIs.cell HM3.out (i := 3) (by decide)
    have z3 := World.rowIs.frozen HM3.out 3
    (try simp only [Act.put, List.setIfInBounds_toArray, List.set_cons_zero, List.set_cons_succ])
    refine wpAnyH_take (i := 7) (v := ?_) rfl (by kernel_rfl) (by kernel_rfl) (by kernel_rfl) (fun _ _ _ h => h) (Or.inl ⟨by rfl, ?_⟩) (by assumption) ?_
    rotate_left
    · intro wS hSw
      (skip)
      go_simp
      all_goals with_reducible rfl
    (try simp only [Act.put, List.setIfInBounds_toArray, List.set_cons_zero, List.set_cons_succ])
    refine wpAnyH_take (i := 8) (v := ?_) rfl (by kernel_rfl) (by kernel_rfl) (by kernel_rfl) (fun _ _ _ h => h) (Or.inl ⟨by rfl, ?_⟩) (by assumption) ?_
    rotate_left
    · intro wS hSw
      (skip)
      go_simp
      all_goals with_reducible rfl
    (try simp only [Act.put, List.setIfInBounds_toArray, List.set_cons_zero, List.set_cons_succ])
    refine wpAnyH_take (i := 9) (v := ?_) rfl (by kernel_rfl) (by kernel_rfl) (by kernel_rfl) (fun _ _ _ h => h) (Or.inl ⟨by rfl, ?_⟩) (by assumption) ?_
    rotate_left
    · intro wS hSw
      (skip)
      go_simp
      all_goals with_reducible rfl
    (try simp only [Act.put, List.setIfInBounds_toArray, List.set_cons_zero, List.set_cons_succ])
    refine held_one (i := 10) (by kernel_rfl) rfl (fun K hK => ?_)
    go_simp
    refine hK.out _ _ (World.rowIs.setOther hHeld (a := ⟨b, 3, none⟩) (fun e => hne e.symm) _) (fun _ => ?_)
    refine wpAnyH_done (by kernel_rfl) ?_ _
    go_wp2
    go_end0
    have q5 := HM3.out.set_a (s.a &&& v)
    exact ⟨rfl, q5, grown_cell G3.out 3 _⟩
  · go_simp
    go_at_call 120
    refine (p_operand _ b qv dv mv s c jt jf k v HM2.out hv).mono ?_
    rintro e w4 ⟨rfl, rfl⟩
    refine hK.out _ _ (World.rowIs.alloc hHeld _) (fun hHeld => ?_)
    have HM3 := Lib.hid (HM2.out.alloc (insO c jt jf k))
    have G3 := Lib.hid (grown_alloc G2.out (insO c jt jf k))
    clear hK K HM2 G2 m3
    generalize W2.alloc (insO c jt jf k) = W3 at HM3 G3 hHeld ⊢
    have n3 : W3.cell? ⟨b, 3, none⟩ = some (.int .u32 (s.a.toNat : Int)) := World.rowIs.cell HM3.out (i := 3) (by decide)
    have z3 := World.rowIs.frozen HM3.out 3
    (try simp only [Act.put, List.setIfInBounds_toArray, List.set_cons_zero, List.set_cons_succ])
    refine held_one (i := 3) (by kernel_rfl) rfl (fun K hK => ?_)
    go_simp
    refine hK.out _ _ hHeld (fun hHeld => ?_)
    clear hK K
    (try simp only [Act.put, List.setIfInBounds_toArray, List.set_cons_zero, List.set_cons_succ])
    refine wpAnyH_take (i := 7) (v := ?_) rfl (by kernel_rfl) (by kernel_rfl) (by kernel_rfl) (fun _ _ _ h => h) (Or.inl ⟨by rfl, ?_⟩) (by assumption) ?_
    rotate_left
    · intro wS hSw
      (skip)
      go_simp
      all_goals with_reducible rfl
    (try simp only [Act.put, List.setIfInBounds_toArray, List.set_cons_zero, List.set_cons_succ])
    refine wpAnyH_take (i := 8) (v := ?_) rfl (by kernel_rfl) (by kernel_rfl) (by kernel_rfl) (fun _ _ _ h => h) (Or.inl ⟨by rfl, ?_⟩) (by assumption) ?_
    rotate_left
    · intro wS hSw
      (skip)
      go_simp
      all_goals with_reducible rfl
    (try simp only [Act.put, List.setIfInBounds_toArray, List.set_cons_zero, List.set_cons_succ])
    refine wpAnyH_take (i := 9) (v := ?_) rfl (by kernel_rfl) (by kernel_rfl) (by kernel_rfl) (fun _ _ _ h => h) (Or.inl ⟨by rfl, ?_⟩) (by assumption) ?_
    rotate_left
    · intro wS hSw
      (skip)
      go_simp
      all_goals with_reducible rfl
    (try simp only [Act.put, List.setIfInBounds_toArray, List.set_cons_zero, List.set_cons_succ])
    refine held_one (i := 10) (by kernel_rfl) rfl (fun K hK => ?_)
    go_simp
    refine hK.out _ _ (World.rowIs.setOther hHeld (a := ⟨b, 3, none⟩) (fun e => hne e.symm) _) (fun _ => ?_)
    refine wpAnyH_done (by kernel_rfl) ?_ _
    go_wp2
    go_end0
    have q5 := HM3.out.set_a (s.a &&& v)
    exact ⟨rfl, q5, grown_cell G3.out 3 _⟩
set_option maxHeartbeats 1000000 in
theorem p_xor (h : PMAt w b qv dv mv s) (hv : Opnd c k s v) : Calls Tryz.prog 94 #[.pointer (some ⟨b, 0, none⟩), .agg #[.int .u16 c, .int .u8 (jt : Int), .int .u8 (jf : Int), .int .u32 (k.toNat : Int)]] w (OpP w b qv dv mv { s with a := s.a ^^^ v }) := by
  have hlt := World.rowIs.lt h
  have HM1 := Lib.hid (h.alloc (insO c jt jf k))
  have HD := Lib.hid (ins_box w c jt jf k)
  have G1 := Lib.hid (grown_alloc (World.grownBy.refl w (some b)) (insO c jt jf k))
  have e1 := xor32 s.a v
  clear h
  go_enter Tryz.func94, Tryz.ntmps94
  go_wp2
  generalize w.alloc (insO c jt jf k) = W1 at HM1 HD G1 ⊢
  generalize w.heap.size = g at HD hlt ⊢
  have hne : ¬ b = g := by omega
  refine wp_region_held_drew (S := fun w' => w'.rowIs g 60 4 (insF ⟨c, jt, jf, k⟩)) (by kernel_rfl) HD.out (fun hHeld => ?_)
  have HM2 := Lib.hid HM1.out.drew
  have G2 : Hid (w.grownBy W1.drew (some b)) := Lib.hid (grown_drawn G1.out 1)
  clear HM1 HD G1
  generalize W1.drew = W2 at HM2 G2 hHeld ⊢
  have m3 : W2.cell? ⟨b, 3, none⟩ = some (.int .u32 (s.a.toNat : Int)) := World.rowIs.cell HM2.out (i := 3) (by decide)
  refine wpAnyH_take (i := 0) (v := ?_) rfl (by kernel_rfl) (by kernel_rfl) (by kernel_rfl) (fun _ _ _ h => h) (Or.inl ⟨by rfl, ?_⟩) (by assumption) ?_
  rotate_left
  · intro wS hSw
    (obtain ⟨q0, q1, q2, q3⟩ := ins_cells hSw; clear hSw)
    go_simp
    all_goals with_reducible rfl
  (try simp only [Act.put, List.setIfInBounds_toArray, List.set_cons_zero, List.set_cons_succ])
  refine wpAnyH_take (i := 1) (v := ?_) rfl (by kernel_rfl) (by kernel_rfl) (by kernel_rfl) (fun _ _ _ h => h) (Or.inl ⟨by rfl, ?_⟩) (by assumption) ?_
  rotate_left
  · intro wS hSw
    (obtain ⟨q0, q1, q2, q3⟩ := ins_cells hSw; clear hSw)
    go_simp
    all_goals with_reducible rfl
  (try simp only [Act.put, List.setIfInBounds_toArray, List.set_cons_zero, List.set_cons_succ])
  refine wpAnyH_take (i := 2) (v := ?_) rfl (by kernel_rfl) (by kernel_rfl) (by kernel_rfl) (fun _ _ _ h => h) (Or.inl ⟨by rfl, ?_⟩) (by assumption) ?_
  rotate_left
  · intro wS hSw
    (obtain ⟨q0, q1, q2, q3⟩ := ins_cells hSw; clear hSw)
    go_simp
    all_goals with_reducible rfl
  (try simp only [Act.put, List.setIfInBounds_toArray, List.set_cons_zero, List.set_cons_succ])
  refine wpAnyH_take (i := 4) (v := ?_) rfl (by kernel_rfl) (by kernel_rfl) (by kernel_rfl) (fun _ _ _ h => h) (Or.inl ⟨by rfl, ?_⟩) (by assumption) ?_
  rotate_left
  · intro wS hSw
    (obtain ⟨q0, q1, q2, q3⟩ := ins_cells hSw; clear hSw)
    go_simp
    all_goals with_reducible rfl
  (try simp only [Act.put, List.setIfInBounds_toArray, List.set_cons_zero, List.set_cons_succ])
  refine wpAnyH_take (i := 5) (v := ?_) rfl (by kernel_rfl) (by kernel_rfl) (by kernel_rfl) (fun _ _ _ h => h) (Or.inl ⟨by rfl, ?_⟩) (by assumption) ?_
  rotate_left
  · intro wS hSw
    (obtain ⟨q0, q1, q2, q3⟩ := ins_cells hSw; clear hSw)
    go_simp
    all_goals with_reducible rfl
  (try simp only [Act.put, List.setIfInBounds_toArray, List.set_cons_zero, List.set_cons_succ])
  refine wpAnyH_ready (rs := [3, 6]) (by kernel_rfl) (by simp) (AllReadyH.cons rfl (fun K hK => ?_) (AllReadyH.cons rfl (fun K hK => ?_) AllReadyH.nil))
  · go_simp
    refine hK.out _ _ hHeld (fun hHeld => ?_)
    clear hK K
    (try simp only [Act.put, List.setIfInBounds_toArray, List.set_cons_zero, List.set_cons_succ])
    refine held_one (i := 6) (by kernel_rfl) rfl (fun K hK => ?_)
    go_simp
    go_at_call 120
    refine (p_operand _ b qv dv mv s c jt jf k v HM2.out hv).mono ?_
    rintro e w4 ⟨rfl, rfl⟩
    refine hK.out _ _ (World.rowIs.alloc hHeld _) (fun hHeld => ?_)
    have HM3 := Lib.hid (HM2.out.alloc (insO c jt jf k))
    have G3 := Lib.hid (grown_alloc G2.out (insO c jt jf k))
    clear hK K HM2 G2 m3
    generalize W2.alloc (insO c jt jf k) = W3 at HM3 G3 hHeld ⊢
    have n3 : W3.cell? ⟨b, 3, none⟩ = some (.int .u32 (s.a.toNat : Int)) := World.rowIs.cell HM3.out (i := 3) (by decide)
    have z3 := World.rowIs.frozen HM3.out 3
    (try simp only [Act.put, List.setIfInBounds_toArray, List.set_cons_zero, List.set_cons_succ])
    refine wpAnyH_take (i := 7) (v := ?_) rfl (by kernel_rfl) (by kernel_rfl) (by kernel_rfl) (fun _ _ _ h => h) (Or.inl ⟨by rfl, ?_⟩) (by assumption) ?_
    rotate_left
    · intro wS hSw
      (skip)
      go_simp
      all_goals with_reducible rfl
    (try simp only [Act.put, List.setIfInBounds_toArray, List.set_cons_zero, List.set_cons_succ])
    refine wpAnyH_take (i := 8) (v := ?_) rfl (by kernel_rfl) (by kernel_rfl) (by kernel_rfl) (fun _ _ _ h => h) (Or.inl ⟨by rfl, ?_⟩) (by assumption) ?_
    rotate_left
    · intro wS hSw
      (skip)
      go_simp
      all_goals with_reducible rfl
    (try simp only [Act.put, List.setIfInBounds_toArray, List.set_cons_zero, List.set_cons_succ])
    refine wpAnyH_take (i := 9) (v := ?_) rfl (by kernel_rfl) (by kernel_rfl) (by kernel_rfl) (fun _ _ _ h => h) (Or.inl ⟨by rfl, ?_⟩) (by assumption) ?_
    rotate_left
    · intro wS hSw
      (skip)
      go_simp
      all_goals with_reducible rfl
    (try simp only [Act.put, List.setIfInBounds_toArray, List.set_cons_zero, List.set_cons_succ])
    refine held_one (i := 10) (by kernel_rfl) rfl (fun K hK => ?_)
    go_simp
    refine hK.out _ _ (World.rowIs.setOther hHeld (a := ⟨b, 3, none⟩) (fun e => hne e.symm) _) (fun _ => ?_)
    refine wpAnyH_done (by kernel_rfl) ?_ _
    go_wp2
    go_end0
    have q5 := HM3.out.set_a (s.a ^^^ v)
    exact ⟨rfl, q5, grown_cell G3.out 3 _⟩
  · go_simp
    go_at_call 120
    refine (p_operand _ b qv dv mv s c jt jf k v HM2.out hv).mono ?_
    rintro e w4 ⟨rfl, rfl⟩
    refine hK.out _ _ (World.rowIs.alloc hHeld _) (fun hHeld => ?_)
    have HM3 := Lib.hid (HM2.out.alloc (insO c jt jf k))
    have G3 := Lib.hid (grown_alloc G2.out (insO c jt jf k))
    clear hK K HM2 G2 m3
    generalize W2.alloc (insO c jt jf k) = W3 at HM3 G3 hHeld ⊢
    have n3 : W3.cell? ⟨b, 3, none⟩ = some (.int .u32 (s.a.toNat : Int)) := World.rowIs.cell HM3.out (i := 3) (by decide)
    have z3 := World.rowIs.frozen HM3.out 3
    (try simp only [Act.put, List.setIfInBounds_toArray, List.set_cons_zero, List.set_cons_succ])
    refine held_one (i := 3) (by kernel_rfl) rfl (fun K hK => ?_)
    go_simp
    refine hK.out _ _ hHeld (fun hHeld => ?_)
    clear hK K
    (try simp only [Act.put, List.setIfInBounds_toArray, List.set_cons_zero, List.set_cons_succ])
    refine wpAnyH_take (i := 7) (v := ?_) rfl (by kernel_rfl) (by kernel_rfl) (by kernel_rfl) (fun _ _ _ h => h) (Or.inl ⟨by rfl, ?_⟩) (by assumption) ?_
    rotate_left
    · intro wS hSw
      (skip)
      go_simp
      all_goals with_reducible rfl
    (try simp only [Act.put, List.setIfInBounds_toArray, List.set_cons_zero, List.set_cons_succ])
    refine wpAnyH_take (i := 8) (v := ?_) rfl (by kernel_rfl) (by kernel_rfl) (by kernel_rfl) (fun _ _ _ h => h) (Or.inl ⟨by rfl, ?_⟩) (by assumption) ?_
    rotate_left
    · intro wS hSw
      (skip)
      go_simp
      all_goals with_reducible rfl
    (try simp only [Act.put, List.setIfInBounds_toArray, List.set_cons_zero, List.set_cons_succ])
    refine wpAnyH_take (i := 9) (v := ?_) rfl (by kernel_rfl) (by kernel_rfl) (by kernel_rfl) (fun _ _ _ h => h) (Or.inl ⟨by rfl, ?_⟩) (by assumption) ?_
    rotate_left
    · intro wS hSw
      (skip)
      go_simp
      all_goals with_reducible rfl
    (try simp only [Act.put, List.setIfInBounds_toArray, List.set_cons_zero, List.set_cons_succ])
    refine held_one (i := 10) (by kernel_rfl) rfl (fun K hK => ?_)
    go_simp
    refine hK.out _ _ (World.rowIs.setOther hHeld (a := ⟨b, 3, none⟩) (fun e => hne e.symm) _) (fun _ => ?_)
    refine wpAnyH_done (by kernel_rfl) ?_ _
    go_wp2
    go_end0
    have q5 := HM3.out.set_a (s.a ^^^ v)
    exact ⟨rfl, q5, grown_cell G3.out 3 _⟩
set_option maxHeartbeats 1000000 in
theorem p_left (h : PMAt w b qv dv mv s) (hv : Opnd c k s v) : Calls Tryz.prog 92 #[.pointer (some ⟨b, 0, none⟩), .agg #[.int .u16 c, .int .u8 (jt : Int), .int .u8 (jf : Int), .int .u32 (k.toNat : Int)]] w (OpP w b qv dv mv { s with a := s.a <<< (v.toNat % 32) }) := by
  have hlt := World.rowIs.lt h
  have HM1 := Lib.hid (h.alloc (insO c jt jf k))
  have HD := Lib.hid (ins_box w c jt jf k)
  have G1 := Lib.hid (grown_alloc (World.grownBy.refl w (some b)) (insO c jt jf k))
  have e8 := low5 v
  clear h
  go_enter Tryz.func92, Tryz.ntmps92
  go_wp2
  generalize w.alloc (insO c jt jf k) = W1 at HM1 HD G1 ⊢
  generalize w.heap.size = g at HD hlt ⊢
  have hne : ¬ b = g := by omega
  refine wp_region_held_drew (S := fun w' => w'.rowIs g 60 4 (insF ⟨c, jt, jf, k⟩)) (by kernel_rfl) HD.out (fun hHeld => ?_)
  have HM2 := Lib.hid HM1.out.drew
  have G2 : Hid (w.grownBy W1.drew (some b)) := Lib.hid (grown_drawn G1.out 1)
  clear HM1 HD G1
  generalize W1.drew = W2 at HM2 G2 hHeld ⊢
  have m3 : W2.cell? ⟨b, 3, none⟩ = some (.int .u32 (s.a.toNat : Int)) := World.rowIs.cell HM2.out (i := 3) (by decide)
  refine wpAnyH_take (i := 0) (v := ?_) rfl (by kernel_rfl) (by kernel_rfl) (by kernel_rfl) (fun _ _ _ h => h) (Or.inl ⟨by rfl, ?_⟩) (by assumption) ?_
  rotate_left
  · intro wS hSw
    (obtain ⟨q0, q1, q2, q3⟩ := ins_cells hSw; clear hSw)
    go_simp
    all_goals with_reducible rfl
  (try simp only [Act.put, List.setIfInBounds_toArray, List.set_cons_zero, List.set_cons_succ])
  refine wpAnyH_take (i := 1) (v := ?_) rfl (by kernel_rfl) (by kernel_rfl) (by kernel_rfl) (fun _ _ _ h => h) (Or.inl ⟨by rfl, ?_⟩) (by assumption) ?_
  rotate_left
  · intro wS hSw
    (obtain ⟨q0, q1, q2, q3⟩ := ins_cells hSw; clear hSw)
    go_simp
    all_goals with_reducible rfl
  (try simp only [Act.put, List.setIfInBounds_toArray, List.set_cons_zero, List.set_cons_succ])
  refine wpAnyH_take (i := 2) (v := ?_) rfl (by kernel_rfl) (by kernel_rfl) (by kernel_rfl) (fun _ _ _ h => h) (Or.inl ⟨by rfl, ?_⟩) (by assumption) ?_
  rotate_left
  · intro wS hSw
    (obtain ⟨q0, q1, q2, q3⟩ := ins_cells hSw; clear hSw)
    go_simp
    all_goals with_reducible rfl
  (try simp only [Act.put, List.setIfInBounds_toArray, List.set_cons_zero, List.set_cons_succ])
  refine wpAnyH_take (i := 4) (v := ?_) rfl (by kernel_rfl) (by kernel_rfl) (by kernel_rfl) (fun _ _ _ h => h) (Or.inl ⟨by rfl, ?_⟩) (by assumption) ?_
  rotate_left
  · intro wS hSw
    (obtain ⟨q0, q1, q2, q3⟩ := ins_cells hSw; clear hSw)
    go_simp
    all_goals with_reducible rfl
  (try simp only [Act.put, List.setIfInBounds_toArray, List.set_cons_zero, List.set_cons_succ])
  refine wpAnyH_take (i := 5) (v := ?_) rfl (by kernel_rfl) (by kernel_rfl) (by kernel_rfl) (fun _ _ _ h => h) (Or.inl ⟨by rfl, ?_⟩) (by assumption) ?_
  rotate_left
  · intro wS hSw
    (obtain ⟨q0, q1, q2, q3⟩ := ins_cells hSw; clear hSw)
    go_simp
    all_goals with_reducible rfl
  (try simp only [Act.put, List.setIfInBounds_toArray, List.set_cons_zero, List.set_cons_succ])
  refine wpAnyH_ready (rs := [3, 6]) (by kernel_rfl) (by simp) (AllReadyH.cons rfl (fun K hK => ?_) (AllReadyH.cons rfl (fun K hK => ?_) AllReadyH.nil))
  · go_simp
    refine hK.out _ _ hHeld (fun hHeld => ?_)
    clear hK K
    (try simp only [Act.put, List.setIfInBounds_toArray, List.set_cons_zero, List.set_cons_succ])
    refine held_one (i := 6) (by kernel_rfl) rfl (fun K hK => ?_)
    go_simp
    go_at_call 120
    refine (p_operand _ b qv dv mv s c jt jf k v HM2.out hv).mono ?_
    rintro e w4 ⟨rfl, rfl⟩
    refine hK.out _ _ (World.rowIs.alloc hHeld _) (fun hHeld => ?_)
    have HM3 := Lib.hid (HM2.out.alloc (insO c jt jf k))
    have G3 := Lib.hid (grown_alloc G2.out (insO c jt jf k))
    clear hK K HM2 G2 m3
    generalize W2.alloc (insO c jt jf k) = W3 at HM3 G3 hHeld ⊢
    have n3 : W3.cell? ⟨b, 3, none⟩ = some (.int .u32 (s.a.toNat : Int)) := World.rowIs.cell HM3.out (i := 3) (by decide)
    have z3 := World.rowIs.frozen HM3.out 3
    (try simp only [Act.put, List.setIfInBounds_toArray, List.set_cons_zero, List.set_cons_succ])
    refine wpAnyH_take (i := 7) (v := ?_) rfl (by kernel_rfl) (by kernel_rfl) (by kernel_rfl) (fun _ _ _ h => h) (Or.inl ⟨by rfl, ?_⟩) (by assumption) ?_
    rotate_left
    · intro wS hSw
      (skip)
      go_simp
      all_goals with_reducible rfl
    (try simp only [Act.put, List.setIfInBounds_toArray, List.set_cons_zero, List.set_cons_succ])
    refine wpAnyH_take (i := 8) (v := ?_) rfl (by kernel_rfl) (by kernel_rfl) (by kernel_rfl) (fun _ _ _ h => h) (Or.inl ⟨by rfl, ?_⟩) (by assumption) ?_
    rotate_left
    · intro wS hSw
      (skip)
      go_simp
      all_goals with_reducible rfl
    (try simp only [Act.put, List.setIfInBounds_toArray, List.set_cons_zero, List.set_cons_succ])
    refine wpAnyH_take (i := 9) (v := ?_) rfl (by kernel_rfl) (by kernel_rfl) (by kernel_rfl) (fun _ _ _ h => h) (Or.inl ⟨by rfl, ?_⟩) (by assumption) ?_
    rotate_left
    · intro wS hSw
      (skip)
      go_simp
      all_goals with_reducible rfl
    (try simp only [Act.put, List.setIfInBounds_toArray, List.set_cons_zero, List.set_cons_succ])
    refine wpAnyH_take (i := 10) (v := ?_) rfl (by kernel_rfl) (by kernel_rfl) (by kernel_rfl) (fun _ _ _ h => h) (Or.inl ⟨by rfl, ?_⟩) (by assumption) ?_
    rotate_left
    · intro wS hSw
      (skip)
      go_simp
      all_goals with_reducible rfl
    (try simp only [Act.put, List.setIfInBounds_toArray, List.set_cons_zero, List.set_cons_succ])
    refine held_one (i := 11) (by kernel_rfl) rfl (fun K hK => ?_)
    go_simp
    refine hK.out _ _ (World.rowIs.setOther hHeld (a := ⟨b, 3, none⟩) (fun e => hne e.symm) _) (fun _ => ?_)
    refine wpAnyH_done (by kernel_rfl) ?_ _
    go_wp2
    go_end0
    have q5 := HM3.out.set_a (s.a <<< (v.toNat % 32))
    rw [← shl32, IntKind.wrap_u32] at q5
    exact ⟨rfl, q5, grown_cell G3.out 3 _⟩
  · go_simp
    go_at_call 120
    refine (p_operand _ b qv dv mv s c jt jf k v HM2.out hv).mono ?_
    rintro e w4 ⟨rfl, rfl⟩
    refine hK.out _ _ (World.rowIs.alloc hHeld _) (fun hHeld => ?_)
    have HM3 := Lib.hid (HM2.out.alloc (insO c jt jf k))
    have G3 := Lib.hid (grown_alloc G2.out (insO c jt jf k))
    clear hK K HM2 G2 m3
    generalize W2.alloc (insO c jt jf k) = W3 at HM3 G3 hHeld ⊢
    have n3 : W3.cell? ⟨b, 3, none⟩ = some (.int .u32 (s.a.toNat : Int)) := World.rowIs.cell HM3.out (i := 3) (by decide)
    have z3 := World.rowIs.frozen HM3.out 3
    (try simp only [Act.put, List.setIfInBounds_toArray, List.set_cons_zero, List.set_cons_succ])
    refine wpAnyH_take (i := 7) (v := ?_) rfl (by kernel_rfl) (by kernel_rfl) (by kernel_rfl) (fun _ _ _ h => h) (Or.inl ⟨by rfl, ?_⟩) (by assumption) ?_
    rotate_left
    · intro wS hSw
      (skip)
      go_simp
      all_goals with_reducible rfl
    (try simp only [Act.put, List.setIfInBounds_toArray, List.set_cons_zero, List.set_cons_succ])
    refine held_one (i := 3) (by kernel_rfl) rfl (fun K hK => ?_)
    go_simp
    refine hK.out _ _ hHeld (fun hHeld => ?_)
    clear hK K
    (try simp only [Act.put, List.setIfInBounds_toArray, List.set_cons_zero, List.set_cons_succ])
    refine wpAnyH_take (i := 8) (v := ?_) rfl (by kernel_rfl) (by kernel_rfl) (by kernel_rfl) (fun _ _ _ h => h) (Or.inl ⟨by rfl, ?_⟩) (by assumption) ?_
    rotate_left
    · intro wS hSw
      (skip)
      go_simp
      all_goals with_reducible rfl
    (try simp only [Act.put, List.setIfInBounds_toArray, List.set_cons_zero, List.set_cons_succ])
    refine wpAnyH_take (i := 9) (v := ?_) rfl (by kernel_rfl) (by kernel_rfl) (by kernel_rfl) (fun _ _ _ h => h) (Or.inl ⟨by rfl, ?_⟩) (by assumption) ?_
    rotate_left
    · intro wS hSw
      (skip)
      go_simp
      all_goals with_reducible rfl
    (try simp only [Act.put, List.setIfInBounds_toArray, List.set_cons_zero, List.set_cons_succ])
    refine wpAnyH_take (i := 10) (v := ?_) rfl (by kernel_rfl) (by kernel_rfl) (by kernel_rfl) (fun _ _ _ h => h) (Or.inl ⟨by rfl, ?_⟩) (by assumption) ?_
    rotate_left
    · intro wS hSw
      (skip)
      go_simp
      all_goals with_reducible rfl
    (try simp only [Act.put, List.setIfInBounds_toArray, List.set_cons_zero, List.set_cons_succ])
    refine held_one (i := 11) (by kernel_rfl) rfl (fun K hK => ?_)
    go_simp
    refine hK.out _ _ (World.rowIs.setOther hHeld (a := ⟨b, 3, none⟩) (fun e => hne e.symm) _) (fun _ => ?_)
    refine wpAnyH_done (by kernel_rfl) ?_ _
    go_wp2
    go_end0
    have q5 := HM3.out.set_a (s.a <<< (v.toNat % 32))
    rw [← shl32, IntKind.wrap_u32] at q5
    exact ⟨rfl, q5, grown_cell G3.out 3 _⟩
set_option maxHeartbeats 1000000 in
theorem p_right (h : PMAt w b qv dv mv s) (hv : Opnd c k s v) : Calls Tryz.prog 93 #[.pointer (some ⟨b, 0, none⟩), .agg #[.int .u16 c, .int .u8 (jt : Int), .int .u8 (jf : Int), .int .u32 (k.toNat : Int)]] w (OpP w b qv dv mv { s with a := s.a >>> (v.toNat % 32) }) := by
  have hlt := World.rowIs.lt h
  have HM1 := Lib.hid (h.alloc (insO c jt jf k))
  have HD := Lib.hid (ins_box w c jt jf k)
  have G1 := Lib.hid (grown_alloc (World.grownBy.refl w (some b)) (insO c jt jf k))
  have e8 := low5 v
  clear h
  go_enter Tryz.func93, Tryz.ntmps93
  go_wp2
  generalize w.alloc (insO c jt jf k) = W1 at HM1 HD G1 ⊢
  generalize w.heap.size = g at HD hlt ⊢
  have hne : ¬ b = g := by omega
  refine wp_region_held_drew (S := fun w' => w'.rowIs g 60 4 (insF ⟨c, jt, jf, k⟩)) (by kernel_rfl) HD.out (fun hHeld => ?_)
  have HM2 := Lib.hid HM1.out.drew
  have G2 : Hid (w.grownBy W1.drew (some b)) := Lib.hid (grown_drawn G1.out 1)
  clear HM1 HD G1
  generalize W1.drew = W2 at HM2 G2 hHeld ⊢
  have m3 : W2.cell? ⟨b, 3, none⟩ = some (.int .u32 (s.a.toNat : Int)) := World.rowIs.cell HM2.out (i := 3) (by decide)
  refine wpAnyH_take (i := 0) (v := ?_) rfl (by kernel_rfl) (by kernel_rfl) (by kernel_rfl) (fun _ _ _ h => h) (Or.inl ⟨by rfl, ?_⟩) (by assumption) ?_
  rotate_left
  · intro wS hSw
    (obtain ⟨q0, q1, q2, q3⟩ := ins_cells hSw; clear hSw)
    go_simp
    all_goals with_reducible rfl
  (try simp only [Act.put, List.setIfInBounds_toArray, List.set_cons_zero, List.set_cons_succ])
  refine wpAnyH_take (i := 1) (v := ?_) rfl (by kernel_rfl) (by kernel_rfl) (by kernel_rfl) (fun _ _ _ h => h) (Or.inl ⟨by rfl, ?_⟩) (by assumption) ?_
  rotate_left
  · intro wS hSw
    (obtain ⟨q0, q1, q2, q3⟩ := ins_cells hSw; clear hSw)
    go_simp
    all_goals with_reducible rfl
  (try simp only [Act.put, List.setIfInBounds_toArray, List.set_cons_zero, List.set_cons_succ])
  refine wpAnyH_take (i := 2) (v := ?_) rfl (by kernel_rfl) (by kernel_rfl) (by kernel_rfl) (fun _ _ _ h => h) (Or.inl ⟨by rfl, ?_⟩) (by assumption) ?_
  rotate_left
  · intro wS hSw
    (obtain ⟨q0, q1, q2, q3⟩ := ins_cells hSw; clear hSw)
    go_simp
    all_goals with_reducible rfl
  (try simp only [Act.put, List.setIfInBounds_toArray, List.set_cons_zero, List.set_cons_succ])
  refine wpAnyH_take (i := 4) (v := ?_) rfl (by kernel_rfl) (by kernel_rfl) (by kernel_rfl) (fun _ _ _ h => h) (Or.inl ⟨by rfl, ?_⟩) (by assumption) ?_
  rotate_left
  · intro wS hSw
    (obtain ⟨q0, q1, q2, q3⟩ := ins_cells hSw; clear hSw)
    go_simp
    all_goals with_reducible rfl
  (try simp only [Act.put, List.setIfInBounds_toArray, List.set_cons_zero, List.set_cons_succ])
  refine wpAnyH_take (i := 5) (v := ?_) rfl (by kernel_rfl) (by kernel_rfl) (by kernel_rfl) (fun _ _ _ h => h) (Or.inl ⟨by rfl, ?_⟩) (by assumption) ?_
  rotate_left
  · intro wS hSw
    (obtain ⟨q0, q1, q2, q3⟩ := ins_cells hSw; clear hSw)
    go_simp
    all_goals with_reducible rfl
  (try simp only [Act.put, List.setIfInBounds_toArray, List.set_cons_zero, List.set_cons_succ])
  refine wpAnyH_ready (rs := [3, 6]) (by kernel_rfl) (by simp) (AllReadyH.cons rfl (fun K hK => ?_) (AllReadyH.cons rfl (fun K hK => ?_) AllReadyH.nil))
  · go_simp
    refine hK.out _ _ hHeld (fun hHeld => ?_)
    clear hK K
    (try simp only [Act.put, List.setIfInBounds_toArray, List.set_cons_zero, List.set_cons_succ])
    refine held_one (i := 6) (by kernel_rfl) rfl (fun K hK => ?_)
    go_simp
    go_at_call 120
    refine (p_operand _ b qv dv mv s c jt jf k v HM2.out hv).mono ?_
    rintro e w4 ⟨rfl, rfl⟩
    refine hK.out _ _ (World.rowIs.alloc hHeld _) (fun hHeld => ?_)
    have HM3 := Lib.hid (HM2.out.alloc (insO c jt jf k))
    have G3 := Lib.hid (grown_alloc G2.out (insO c jt jf k))
    clear hK K HM2 G2 m3
    generalize W2.alloc (insO c jt jf k) = W3 at HM3 G3 hHeld ⊢
    have n3 : W3.cell? ⟨b, 3, none⟩ = some (.int .u32 (s.a.toNat : Int)) := World.rowIs.cell HM3.out (i := 3) (by decide)
    have z3 := World.rowIs.frozen HM3.out 3
    (try simp only [Act.put, List.setIfInBounds_toArray, List.set_cons_zero, List.set_cons_succ])
    refine wpAnyH_take (i := 7) (v := ?_) rfl (by kernel_rfl) (by kernel_rfl) (by kernel_rfl) (fun _ _ _ h => h) (Or.inl ⟨by rfl, ?_⟩) (by assumption) ?_
    rotate_left
    · intro wS hSw
      (skip)
      go_simp
      all_goals with_reducible rfl
    (try simp only [Act.put, List.setIfInBounds_toArray, List.set_cons_zero, List.set_cons_succ])
    refine wpAnyH_take (i := 8) (v := ?_) rfl (by kernel_rfl) (by kernel_rfl) (by kernel_rfl) (fun _ _ _ h => h) (Or.inl ⟨by rfl, ?_⟩) (by assumption) ?_
    rotate_left
    · intro wS hSw
      (skip)
      go_simp
      all_goals with_reducible rfl
    (try simp only [Act.put, List.setIfInBounds_toArray, List.set_cons_zero, List.set_cons_succ])
    refine wpAnyH_take (i := 9) (v := ?_) rfl (by kernel_rfl) (by kernel_rfl) (by kernel_rfl) (fun _ _ _ h => h) (Or.inl ⟨by rfl, ?_⟩) (by assumption) ?_
    rotate_left
    · intro wS hSw
      (skip)
      go_simp
      all_goals with_reducible rfl
    (try simp only [Act.put, List.setIfInBounds_toArray, List.set_cons_zero, List.set_cons_succ])
    refine wpAnyH_take (i := 10) (v := ?_) rfl (by kernel_rfl) (by kernel_rfl) (by kernel_rfl) (fun _ _ _ h => h) (Or.inl ⟨by rfl, ?_⟩) (by assumption) ?_
    rotate_left
    · intro wS hSw
      (skip)
      go_simp
      all_goals with_reducible rfl
    (try simp only [Act.put, List.setIfInBounds_toArray, List.set_cons_zero, List.set_cons_succ])
    refine held_one (i := 11) (by kernel_rfl) rfl (fun K hK => ?_)
    go_simp
    refine hK.out _ _ (World.rowIs.setOther hHeld (a := ⟨b, 3, none⟩) (fun e => hne e.symm) _) (fun _ => ?_)
    refine wpAnyH_done (by kernel_rfl) ?_ _
    go_wp2
    go_end0
    have q5 := HM3.out.set_a (s.a >>> (v.toNat % 32))
    rw [← shr32] at q5
    exact ⟨rfl, q5, grown_cell G3.out 3 _⟩
  · go_simp
    go_at_call 120
    refine (p_operand _ b qv dv mv s c jt jf k v HM2.out hv).mono ?_
    rintro e w4 ⟨rfl, rfl⟩
    refine hK.out _ _ (World.rowIs.alloc hHeld _) (fun hHeld => ?_)
    have HM3 := Lib.hid (HM2.out.alloc (insO c jt jf k))
    have G3 := Lib.hid (grown_alloc G2.out (insO c jt jf k))
    clear hK K HM2 G2 m3
    generalize W2.alloc (insO c jt jf k) = W3 at HM3 G3 hHeld ⊢
    have n3 : W3.cell? ⟨b, 3, none⟩ = some (.int .u32 (s.a.toNat : Int)) := World.rowIs.cell HM3.out (i := 3) (by decide)
    have z3 := World.rowIs.frozen HM3.out 3
    (try simp only [Act.put, List.setIfInBounds_toArray, List.set_cons_zero, List.set_cons_succ])
    refine wpAnyH_take (i := 7) (v := ?_) rfl (by kernel_rfl) (by kernel_rfl) (by kernel_rfl) (fun _ _ _ h => h) (Or.inl ⟨by rfl, ?_⟩) (by assumption) ?_
    rotate_left
    · intro wS hSw
      (skip)
      go_simp
      all_goals with_reducible rfl
    (try simp only [Act.put, List.setIfInBounds_toArray, List.set_cons_zero, List.set_cons_succ])
    refine held_one (i := 3) (by kernel_rfl) rfl (fun K hK => ?_)
    go_simp
    refine hK.out _ _ hHeld (fun hHeld => ?_)
    clear hK K
    (try simp only [Act.put, List.setIfInBounds_toArray, List.set_cons_zero, List.set_cons_succ])
    refine wpAnyH_take (i := 8) (v := ?_) rfl (by kernel_rfl) (by kernel_rfl) (by kernel_rfl) (fun _ _ _ h => h) (Or.inl ⟨by rfl, ?_⟩) (by assumption) ?_
    rotate_left
    · intro wS hSw
      (skip)
      go_simp
      all_goals with_reducible rfl
    (try simp only [Act.put, List.setIfInBounds_toArray, List.set_cons_zero, List.set_cons_succ])
    refine wpAnyH_take (i := 9) (v := ?_) rfl (by kernel_rfl) (by kernel_rfl) (by kernel_rfl) (fun _ _ _ h => h) (Or.inl ⟨by rfl, ?_⟩) (by assumption) ?_
    rotate_left
    · intro wS hSw
      (skip)
      go_simp
      all_goals with_reducible rfl
    (try simp only [Act.put, List.setIfInBounds_toArray, List.set_cons_zero, List.set_cons_succ])
    refine wpAnyH_take (i := 10) (v := ?_) rfl (by kernel_rfl) (by kernel_rfl) (by kernel_rfl) (fun _ _ _ h => h) (Or.inl ⟨by rfl, ?_⟩) (by assumption) ?_
    rotate_left
    · intro wS hSw
      (skip)
      go_simp
      all_goals with_reducible rfl
    (try simp only [Act.put, List.setIfInBounds_toArray, List.set_cons_zero, List.set_cons_succ])
    refine held_one (i := 11) (by kernel_rfl) rfl (fun K hK => ?_)
    go_simp
    refine hK.out _ _ (World.rowIs.setOther hHeld (a := ⟨b, 3, none⟩) (fun e => hne e.symm) _) (fun _ => ?_)
    refine wpAnyH_done (by kernel_rfl) ?_ _
    go_wp2
    go_end0
    have q5 := HM3.out.set_a (s.a >>> (v.toNat % 32))
    rw [← shr32] at q5
    exact ⟨rfl, q5, grown_cell G3.out 3 _⟩
theorem p_loadLen (h : PMAt w b qv dv mv s) : Calls Tryz.prog 78 #[.pointer (some ⟨b, 0, none⟩), .agg #[.int .u16 c, .int .u8 (jt : Int), .int .u8 (jf : Int), .int .u32 (k.toNat : Int)]] w (OpP w b qv dv mv { s with a := 64#32 }) := by
  have c3 : w.cell? ⟨b, 3, none⟩ = some (.int .u32 (s.a.toNat : Int)) := World.rowIs.cell h (i := 3) (by decide)
  have c4 : w.cell? ⟨b, 4, none⟩ = some (.int .u32 (s.x.toNat : Int)) := World.rowIs.cell h (i := 4) (by decide)
  have z3 := World.rowIs.frozen h 3
  have z4 := World.rowIs.frozen h 4
  have hlt := World.rowIs.lt h
  have H := Lib.hid h
  clear h
  go_enter Tryz.func78, Tryz.ntmps78
  go_wp2
  go_end0
  exact ⟨rfl, (H.out.set_a (64#32)).alloc _, grown_alloc (grown_cell (World.grownBy.refl w _) 3 _) _⟩
theorem p_loadLenX (h : PMAt w b qv dv mv s) : Calls Tryz.prog 79 #[.pointer (some ⟨b, 0, none⟩), .agg #[.int .u16 c, .int .u8 (jt : Int), .int .u8 (jf : Int), .int .u32 (k.toNat : Int)]] w (OpP w b qv dv mv { s with x := 64#32 }) := by
  have c3 : w.cell? ⟨b, 3, none⟩ = some (.int .u32 (s.a.toNat : Int)) := World.rowIs.cell h (i := 3) (by decide)
  have c4 : w.cell? ⟨b, 4, none⟩ = some (.int .u32 (s.x.toNat : Int)) := World.rowIs.cell h (i := 4) (by decide)
  have z3 := World.rowIs.frozen h 3
  have z4 := World.rowIs.frozen h 4
  have hlt := World.rowIs.lt h
  have H := Lib.hid h
  clear h
  go_enter Tryz.func79, Tryz.ntmps79
  go_wp2
  go_end0
  exact ⟨rfl, (H.out.set_x (64#32)).alloc _, grown_alloc (grown_cell (World.grownBy.refl w _) 4 _) _⟩
theorem p_loadConst (h : PMAt w b qv dv mv s) : Calls Tryz.prog 80 #[.pointer (some ⟨b, 0, none⟩), .agg #[.int .u16 c, .int .u8 (jt : Int), .int .u8 (jf : Int), .int .u32 (k.toNat : Int)]] w (OpP w b qv dv mv { s with a := k }) := by
  have c3 : w.cell? ⟨b, 3, none⟩ = some (.int .u32 (s.a.toNat : Int)) := World.rowIs.cell h (i := 3) (by decide)
  have c4 : w.cell? ⟨b, 4, none⟩ = some (.int .u32 (s.x.toNat : Int)) := World.rowIs.cell h (i := 4) (by decide)
  have z3 := World.rowIs.frozen h 3
  have z4 := World.rowIs.frozen h 4
  have hlt := World.rowIs.lt h
  have H := Lib.hid h
  clear h
  go_enter Tryz.func80, Tryz.ntmps80
  go_wp2
  go_end0
  exact ⟨rfl, (H.out.set_a (k)).alloc _, grown_alloc (grown_cell (World.grownBy.refl w _) 3 _) _⟩
theorem p_loadConstX (h : PMAt w b qv dv mv s) : Calls Tryz.prog 81 #[.pointer (some ⟨b, 0, none⟩), .agg #[.int .u16 c, .int .u8 (jt : Int), .int .u8 (jf : Int), .int .u32 (k.toNat : Int)]] w (OpP w b qv dv mv { s with x := k }) := by
  have c3 : w.cell? ⟨b, 3, none⟩ = some (.int .u32 (s.a.toNat : Int)) := World.rowIs.cell h (i := 3) (by decide)
  have c4 : w.cell? ⟨b, 4, none⟩ = some (.int .u32 (s.x.toNat : Int)) := World.rowIs.cell h (i := 4) (by decide)
  have z3 := World.rowIs.frozen h 3
  have z4 := World.rowIs.frozen h 4
  have hlt := World.rowIs.lt h
  have H := Lib.hid h
  clear h
  go_enter Tryz.func81, Tryz.ntmps81
  go_wp2
  go_end0
  exact ⟨rfl, (H.out.set_x (k)).alloc _, grown_alloc (grown_cell (World.grownBy.refl w _) 4 _) _⟩
theorem p_copyToX (h : PMAt w b qv dv mv s) : Calls Tryz.prog 103 #[.pointer (some ⟨b, 0, none⟩), .agg #[.int .u16 c, .int .u8 (jt : Int), .int .u8 (jf : Int), .int .u32 (k.toNat : Int)]] w (OpP w b qv dv mv { s with x := s.a }) := by
  have c3 : w.cell? ⟨b, 3, none⟩ = some (.int .u32 (s.a.toNat : Int)) := World.rowIs.cell h (i := 3) (by decide)
  have c4 : w.cell? ⟨b, 4, none⟩ = some (.int .u32 (s.x.toNat : Int)) := World.rowIs.cell h (i := 4) (by decide)
  have z3 := World.rowIs.frozen h 3
  have z4 := World.rowIs.frozen h 4
  have hlt := World.rowIs.lt h
  have H := Lib.hid h
  clear h
  go_enter Tryz.func103, Tryz.ntmps103
  go_wp2
  go_end0
  exact ⟨rfl, (H.out.set_x (s.a)).alloc _, grown_alloc (grown_cell (World.grownBy.refl w _) 4 _) _⟩
theorem p_copyToA (h : PMAt w b qv dv mv s) : Calls Tryz.prog 104 #[.pointer (some ⟨b, 0, none⟩), .agg #[.int .u16 c, .int .u8 (jt : Int), .int .u8 (jf : Int), .int .u32 (k.toNat : Int)]] w (OpP w b qv dv mv { s with a := s.x }) := by
  have c3 : w.cell? ⟨b, 3, none⟩ = some (.int .u32 (s.a.toNat : Int)) := World.rowIs.cell h (i := 3) (by decide)
  have c4 : w.cell? ⟨b, 4, none⟩ = some (.int .u32 (s.x.toNat : Int)) := World.rowIs.cell h (i := 4) (by decide)
  have z3 := World.rowIs.frozen h 3
  have z4 := World.rowIs.frozen h 4
  have hlt := World.rowIs.lt h
  have H := Lib.hid h
  clear h
  go_enter Tryz.func104, Tryz.ntmps104
  go_wp2
  go_end0
  exact ⟨rfl, (H.out.set_a (s.x)).alloc _, grown_alloc (grown_cell (World.grownBy.refl w _) 3 _) _⟩
theorem p_negate (h : PMAt w b qv dv mv s) : Calls Tryz.prog 95 #[.pointer (some ⟨b, 0, none⟩), .agg #[.int .u16 c, .int .u8 (jt : Int), .int .u8 (jf : Int), .int .u32 (k.toNat : Int)]] w (OpP w b qv dv mv { s with a := -s.a }) := by
  have c3 : w.cell? ⟨b, 3, none⟩ = some (.int .u32 (s.a.toNat : Int)) := World.rowIs.cell h (i := 3) (by decide)
  have c4 : w.cell? ⟨b, 4, none⟩ = some (.int .u32 (s.x.toNat : Int)) := World.rowIs.cell h (i := 4) (by decide)
  have z3 := World.rowIs.frozen h 3
  have z4 := World.rowIs.frozen h 4
  have hlt := World.rowIs.lt h
  have H := Lib.hid h
  clear h
  go_enter Tryz.func95, Tryz.ntmps95
  go_wp2
  go_end0
  have q := (H.out.set_a (-s.a)).alloc (insO c jt jf k)
  rw [← neg32, IntKind.wrap_u32] at q
  exact ⟨rfl, q, grown_alloc (grown_cell (World.grownBy.refl w _) 3 _) _⟩
set_option maxHeartbeats 1000000 in
theorem p_loadScratch (h : PMAt w b qv dv mv s) (hk : k.toNat < 16) : Calls Tryz.prog 82 #[.pointer (some ⟨b, 0, none⟩), .agg #[.int .u16 c, .int .u8 (jt : Int), .int .u8 (jf : Int), .int .u32 (k.toNat : Int)]] w (OpP w b qv dv mv { s with a := s.m k.toNat }) := by
  have hlt := World.rowIs.lt h
  have HM1 := Lib.hid (h.alloc (insO c jt jf k))
  have HD := Lib.hid (ins_box w c jt jf k)
  have G1 := Lib.hid (grown_alloc (World.grownBy.refl w (some b)) (insO c jt jf k))
  have hk' : (k.toNat : Int) < 16 := by omega
  clear h
  go_enter Tryz.func82, Tryz.ntmps82
  go_wp2
  generalize w.alloc (insO c jt jf k) = W1 at HM1 HD G1 ⊢
  generalize w.heap.size = g at HD hlt ⊢
  obtain ⟨d0, d1, d2, d3⟩ := ins_cells HD.out
  have ud0 : W1.cell? ⟨g, 0, none⟩ = some (.int .u16 c) := d0
  have td0 : ({ W1 with drawn := W1.drawn + 1 } : World).cell? ⟨g, 0, none⟩ = some (.int .u16 c) := ud0
  have ud1 : W1.cell? ⟨g, 1, none⟩ = some (.int .u8 (jt : Int)) := d1
  have td1 : ({ W1 with drawn := W1.drawn + 1 } : World).cell? ⟨g, 1, none⟩ = some (.int .u8 (jt : Int)) := ud1
  have ud2 : W1.cell? ⟨g, 2, none⟩ = some (.int .u8 (jf : Int)) := d2
  have td2 : ({ W1 with drawn := W1.drawn + 1 } : World).cell? ⟨g, 2, none⟩ = some (.int .u8 (jf : Int)) := ud2
  have ud3 : W1.cell? ⟨g, 3, none⟩ = some (.int .u32 (k.toNat : Int)) := d3
  have td3 : ({ W1 with drawn := W1.drawn + 1 } : World).cell? ⟨g, 3, none⟩ = some (.int .u32 (k.toNat : Int)) := ud3
  have ua : W1.cell? ⟨b, 3, none⟩ = some (.int .u32 (s.a.toNat : Int)) := World.rowIs.cell HM1.out (i := 3) (by decide)
  have ta : ({ W1 with drawn := W1.drawn + 1 } : World).cell? ⟨b, 3, none⟩ = some (.int .u32 (s.a.toNat : Int)) := ua
  have ux : W1.cell? ⟨b, 4, none⟩ = some (.int .u32 (s.x.toNat : Int)) := World.rowIs.cell HM1.out (i := 4) (by decide)
  have tx : ({ W1 with drawn := W1.drawn + 1 } : World).cell? ⟨b, 4, none⟩ = some (.int .u32 (s.x.toNat : Int)) := ux
  have um : W1.cell? ⟨b, 5 + k.toNat, none⟩ = some (.int .u32 ((s.m k.toNat).toNat : Int)) := (World.rowIs.cell HM1.out (i := 5 + k.toNat) (by omega)).trans (congrArg some (progV_m qv dv mv s _ hk))
  have tm : ({ W1 with drawn := W1.drawn + 1 } : World).cell? ⟨b, 5 + k.toNat, none⟩ = some (.int .u32 ((s.m k.toNat).toNat : Int)) := um
  go_still_tail 10, (by kernel_rfl)
  change wpList _ _ _ _ _ W1.drew
  clear d0 d1 d2 d3 ud0 td0 ud1 td1 ud2 td2 ud3 td3 ua ta ux tx um tm
  have HM2 := Lib.hid HM1.out.drew
  have G2 : Hid (w.grownBy W1.drew (some b)) := Lib.hid (grown_drawn G1.out 1)
  clear HM1 HD G1
  generalize W1.drew = W2 at HM2 G2 ⊢
  have z3 := World.rowIs.frozen HM2.out 3
  have c3 := World.rowIs.cell HM2.out (i := 3) (by decide)
  go_wp2
  go_end0
  exact ⟨rfl, HM2.out.set_a (s.m k.toNat), grown_cell G2.out 3 _⟩
set_option maxHeartbeats 1000000 in
theorem p_loadScratchX (h : PMAt w b qv dv mv s) (hk : k.toNat < 16) : Calls Tryz.prog 83 #[.pointer (some ⟨b, 0, none⟩), .agg #[.int .u16 c, .int .u8 (jt : Int), .int .u8 (jf : Int), .int .u32 (k.toNat : Int)]] w (OpP w b qv dv mv { s with x := s.m k.toNat }) := by
  have hlt := World.rowIs.lt h
  have HM1 := Lib.hid (h.alloc (insO c jt jf k))
  have HD := Lib.hid (ins_box w c jt jf k)
  have G1 := Lib.hid (grown_alloc (World.grownBy.refl w (some b)) (insO c jt jf k))
  have hk' : (k.toNat : Int) < 16 := by omega
  clear h
  go_enter Tryz.func83, Tryz.ntmps83
  go_wp2
  generalize w.alloc (insO c jt jf k) = W1 at HM1 HD G1 ⊢
  generalize w.heap.size = g at HD hlt ⊢
  obtain ⟨d0, d1, d2, d3⟩ := ins_cells HD.out
  have ud0 : W1.cell? ⟨g, 0, none⟩ = some (.int .u16 c) := d0
  have td0 : ({ W1 with drawn := W1.drawn + 1 } : World).cell? ⟨g, 0, none⟩ = some (.int .u16 c) := ud0
  have ud1 : W1.cell? ⟨g, 1, none⟩ = some (.int .u8 (jt : Int)) := d1
  have td1 : ({ W1 with drawn := W1.drawn + 1 } : World).cell? ⟨g, 1, none⟩ = some (.int .u8 (jt : Int)) := ud1
  have ud2 : W1.cell? ⟨g, 2, none⟩ = some (.int .u8 (jf : Int)) := d2
  have td2 : ({ W1 with drawn := W1.drawn + 1 } : World).cell? ⟨g, 2, none⟩ = some (.int .u8 (jf : Int)) := ud2
  have ud3 : W1.cell? ⟨g, 3, none⟩ = some (.int .u32 (k.toNat : Int)) := d3
  have td3 : ({ W1 with drawn := W1.drawn + 1 } : World).cell? ⟨g, 3, none⟩ = some (.int .u32 (k.toNat : Int)) := ud3
  have ua : W1.cell? ⟨b, 3, none⟩ = some (.int .u32 (s.a.toNat : Int)) := World.rowIs.cell HM1.out (i := 3) (by decide)
  have ta : ({ W1 with drawn := W1.drawn + 1 } : World).cell? ⟨b, 3, none⟩ = some (.int .u32 (s.a.toNat : Int)) := ua
  have ux : W1.cell? ⟨b, 4, none⟩ = some (.int .u32 (s.x.toNat : Int)) := World.rowIs.cell HM1.out (i := 4) (by decide)
  have tx : ({ W1 with drawn := W1.drawn + 1 } : World).cell? ⟨b, 4, none⟩ = some (.int .u32 (s.x.toNat : Int)) := ux
  have um : W1.cell? ⟨b, 5 + k.toNat, none⟩ = some (.int .u32 ((s.m k.toNat).toNat : Int)) := (World.rowIs.cell HM1.out (i := 5 + k.toNat) (by omega)).trans (congrArg some (progV_m qv dv mv s _ hk))
  have tm : ({ W1 with drawn := W1.drawn + 1 } : World).cell? ⟨b, 5 + k.toNat, none⟩ = some (.int .u32 ((s.m k.toNat).toNat : Int)) := um
  go_still_tail 10, (by kernel_rfl)
  change wpList _ _ _ _ _ W1.drew
  clear d0 d1 d2 d3 ud0 td0 ud1 td1 ud2 td2 ud3 td3 ua ta ux tx um tm
  have HM2 := Lib.hid HM1.out.drew
  have G2 : Hid (w.grownBy W1.drew (some b)) := Lib.hid (grown_drawn G1.out 1)
  clear HM1 HD G1
  generalize W1.drew = W2 at HM2 G2 ⊢
  have z4 := World.rowIs.frozen HM2.out 4
  have c4 := World.rowIs.cell HM2.out (i := 4) (by decide)
  go_wp2
  go_end0
  exact ⟨rfl, HM2.out.set_x (s.m k.toNat), grown_cell G2.out 4 _⟩
set_option maxHeartbeats 1000000 in
theorem p_store (h : PMAt w b qv dv mv s) (hk : k.toNat < 16) : Calls Tryz.prog 84 #[.pointer (some ⟨b, 0, none⟩), .agg #[.int .u16 c, .int .u8 (jt : Int), .int .u8 (jf : Int), .int .u32 (k.toNat : Int)]] w (OpP w b qv dv mv { s with m := fun j => if j = k.toNat then s.a else s.m j }) := by
  have hlt := World.rowIs.lt h
  have HM1 := Lib.hid (h.alloc (insO c jt jf k))
  have HD := Lib.hid (ins_box w c jt jf k)
  have G1 := Lib.hid (grown_alloc (World.grownBy.refl w (some b)) (insO c jt jf k))
  have hk' : (k.toNat : Int) < 16 := by omega
  clear h
  go_enter Tryz.func84, Tryz.ntmps84
  go_wp2
  generalize w.alloc (insO c jt jf k) = W1 at HM1 HD G1 ⊢
  generalize w.heap.size = g at HD hlt ⊢
  obtain ⟨d0, d1, d2, d3⟩ := ins_cells HD.out
  have ud0 : W1.cell? ⟨g, 0, none⟩ = some (.int .u16 c) := d0
  have td0 : ({ W1 with drawn := W1.drawn + 1 } : World).cell? ⟨g, 0, none⟩ = some (.int .u16 c) := ud0
  have ud1 : W1.cell? ⟨g, 1, none⟩ = some (.int .u8 (jt : Int)) := d1
  have td1 : ({ W1 with drawn := W1.drawn + 1 } : World).cell? ⟨g, 1, none⟩ = some (.int .u8 (jt : Int)) := ud1
  have ud2 : W1.cell? ⟨g, 2, none⟩ = some (.int .u8 (jf : Int)) := d2
  have td2 : ({ W1 with drawn := W1.drawn + 1 } : World).cell? ⟨g, 2, none⟩ = some (.int .u8 (jf : Int)) := ud2
  have ud3 : W1.cell? ⟨g, 3, none⟩ = some (.int .u32 (k.toNat : Int)) := d3
  have td3 : ({ W1 with drawn := W1.drawn + 1 } : World).cell? ⟨g, 3, none⟩ = some (.int .u32 (k.toNat : Int)) := ud3
  have ua : W1.cell? ⟨b, 3, none⟩ = some (.int .u32 (s.a.toNat : Int)) := World.rowIs.cell HM1.out (i := 3) (by decide)
  have ta : ({ W1 with drawn := W1.drawn + 1 } : World).cell? ⟨b, 3, none⟩ = some (.int .u32 (s.a.toNat : Int)) := ua
  have ux : W1.cell? ⟨b, 4, none⟩ = some (.int .u32 (s.x.toNat : Int)) := World.rowIs.cell HM1.out (i := 4) (by decide)
  have tx : ({ W1 with drawn := W1.drawn + 1 } : World).cell? ⟨b, 4, none⟩ = some (.int .u32 (s.x.toNat : Int)) := ux
  have um : W1.cell? ⟨b, 5 + k.toNat, none⟩ = some (.int .u32 ((s.m k.toNat).toNat : Int)) := (World.rowIs.cell HM1.out (i := 5 + k.toNat) (by omega)).trans (congrArg some (progV_m qv dv mv s _ hk))
  have tm : ({ W1 with drawn := W1.drawn + 1 } : World).cell? ⟨b, 5 + k.toNat, none⟩ = some (.int .u32 ((s.m k.toNat).toNat : Int)) := um
  go_still_tail 10, (by kernel_rfl)
  change wpList _ _ _ _ _ W1.drew
  clear d0 d1 d2 d3 ud0 td0 ud1 td1 ud2 td2 ud3 td3 ua ta ux tx um tm
  have HM2 := Lib.hid HM1.out.drew
  have G2 : Hid (w.grownBy W1.drew (some b)) := Lib.hid (grown_drawn G1.out 1)
  clear HM1 HD G1
  generalize W1.drew = W2 at HM2 G2 ⊢
  have z4 := World.rowIs.frozen HM2.out (5 + k.toNat)
  have c4 : W2.cell? ⟨b, 5 + k.toNat, none⟩ = some (.int .u32 ((s.m k.toNat).toNat : Int)) := (World.rowIs.cell HM2.out (i := 5 + k.toNat) (by omega)).trans (congrArg some (progV_m qv dv mv s _ hk))
  go_wp2
  go_end0
  exact ⟨rfl, HM2.out.set_m k.toNat hk s.a, grown_cell G2.out (5 + k.toNat) _⟩
set_option maxHeartbeats 1000000 in
theorem p_storeX (h : PMAt w b qv dv mv s) (hk : k.toNat < 16) : Calls Tryz.prog 85 #[.pointer (some ⟨b, 0, none⟩), .agg #[.int .u16 c, .int .u8 (jt : Int), .int .u8 (jf : Int), .int .u32 (k.toNat : Int)]] w (OpP w b qv dv mv { s with m := fun j => if j = k.toNat then s.x else s.m j }) := by
  have hlt := World.rowIs.lt h
  have HM1 := Lib.hid (h.alloc (insO c jt jf k))
  have HD := Lib.hid (ins_box w c jt jf k)
  have G1 := Lib.hid (grown_alloc (World.grownBy.refl w (some b)) (insO c jt jf k))
  have hk' : (k.toNat : Int) < 16 := by omega
  clear h
  go_enter Tryz.func85, Tryz.ntmps85
  go_wp2
  generalize w.alloc (insO c jt jf k) = W1 at HM1 HD G1 ⊢
  generalize w.heap.size = g at HD hlt ⊢
  obtain ⟨d0, d1, d2, d3⟩ := ins_cells HD.out
  have ud0 : W1.cell? ⟨g, 0, none⟩ = some (.int .u16 c) := d0
  have td0 : ({ W1 with drawn := W1.drawn + 1 } : World).cell? ⟨g, 0, none⟩ = some (.int .u16 c) := ud0
  have ud1 : W1.cell? ⟨g, 1, none⟩ = some (.int .u8 (jt : Int)) := d1
  have td1 : ({ W1 with drawn := W1.drawn + 1 } : World).cell? ⟨g, 1, none⟩ = some (.int .u8 (jt : Int)) := ud1
  have ud2 : W1.cell? ⟨g, 2, none⟩ = some (.int .u8 (jf : Int)) := d2
  have td2 : ({ W1 with drawn := W1.drawn + 1 } : World).cell? ⟨g, 2, none⟩ = some (.int .u8 (jf : Int)) := ud2
  have ud3 : W1.cell? ⟨g, 3, none⟩ = some (.int .u32 (k.toNat : Int)) := d3
  have td3 : ({ W1 with drawn := W1.drawn + 1 } : World).cell? ⟨g, 3, none⟩ = some (.int .u32 (k.toNat : Int)) := ud3
  have ua : W1.cell? ⟨b, 3, none⟩ = some (.int .u32 (s.a.toNat : Int)) := World.rowIs.cell HM1.out (i := 3) (by decide)
  have ta : ({ W1 with drawn := W1.drawn + 1 } : World).cell? ⟨b, 3, none⟩ = some (.int .u32 (s.a.toNat : Int)) := ua
  have ux : W1.cell? ⟨b, 4, none⟩ = some (.int .u32 (s.x.toNat : Int)) := World.rowIs.cell HM1.out (i := 4) (by decide)
  have tx : ({ W1 with drawn := W1.drawn + 1 } : World).cell? ⟨b, 4, none⟩ = some (.int .u32 (s.x.toNat : Int)) := ux
  have um : W1.cell? ⟨b, 5 + k.toNat, none⟩ = some (.int .u32 ((s.m k.toNat).toNat : Int)) := (World.rowIs.cell HM1.out (i := 5 + k.toNat) (by omega)).trans (congrArg some (progV_m qv dv mv s _ hk))
  have tm : ({ W1 with drawn := W1.drawn + 1 } : World).cell? ⟨b, 5 + k.toNat, none⟩ = some (.int .u32 ((s.m k.toNat).toNat : Int)) := um
  go_still_tail 10, (by kernel_rfl)
  change wpList _ _ _ _ _ W1.drew
  clear d0 d1 d2 d3 ud0 td0 ud1 td1 ud2 td2 ud3 td3 ua ta ux tx um tm
  have HM2 := Lib.hid HM1.out.drew
  have G2 : Hid (w.grownBy W1.drew (some b)) := Lib.hid (grown_drawn G1.out 1)
  clear HM1 HD G1
  generalize W1.drew = W2 at HM2 G2 ⊢
  have z4 := World.rowIs.frozen HM2.out (5 + k.toNat)
  have c4 : W2.cell? ⟨b, 5 + k.toNat, none⟩ = some (.int .u32 ((s.m k.toNat).toNat : Int)) := (World.rowIs.cell HM2.out (i := 5 + k.toNat) (by omega)).trans (congrArg some (progV_m qv dv mv s _ hk))
  go_wp2
  go_end0
  exact ⟨rfl, HM2.out.set_m k.toNat hk s.x, grown_cell G2.out (5 + k.toNat) _⟩
set_option maxHeartbeats 1000000 in
theorem p_jump (h : PMAt w b qv dv mv s) (hp : s.place ≤ 140737488351232) : Calls Tryz.prog 96 #[.pointer (some ⟨b, 0, none⟩), .agg #[.int .u16 c, .int .u8 (jt : Int), .int .u8 (jf : Int), .int .u32 (k.toNat : Int)]] w (OpP w b qv dv mv { s with place := s.place + k.toNat }) := by
  have hlt := World.rowIs.lt h
  have HM1 := Lib.hid (h.alloc (insO c jt jf k))
  have HD := Lib.hid (ins_box w c jt jf k)
  have G1 := Lib.hid (grown_alloc (World.grownBy.refl w (some b)) (insO c jt jf k))
  have hkl := k.isLt
  have hwp : IntKind.i64.wrap ((s.place : Int) + (k.toNat : Int)) = (s.place : Int) + (k.toNat : Int) := IntWalk.i64_in _ (by omega)
  clear h
  go_enter Tryz.func96, Tryz.ntmps96
  go_wp2
  generalize w.alloc (insO c jt jf k) = W1 at HM1 HD G1 ⊢
  generalize w.heap.size = g at HD hlt ⊢
  obtain ⟨d0, d1, d2, d3⟩ := ins_cells HD.out
  have ud0 : W1.cell? ⟨g, 0, none⟩ = some (.int .u16 c) := d0
  have td0 : ({ W1 with drawn := W1.drawn + 1 } : World).cell? ⟨g, 0, none⟩ = some (.int .u16 c) := ud0
  have ud1 : W1.cell? ⟨g, 1, none⟩ = some (.int .u8 (jt : Int)) := d1
  have td1 : ({ W1 with drawn := W1.drawn + 1 } : World).cell? ⟨g, 1, none⟩ = some (.int .u8 (jt : Int)) := ud1
  have ud2 : W1.cell? ⟨g, 2, none⟩ = some (.int .u8 (jf : Int)) := d2
  have td2 : ({ W1 with drawn := W1.drawn + 1 } : World).cell? ⟨g, 2, none⟩ = some (.int .u8 (jf : Int)) := ud2
  have ud3 : W1.cell? ⟨g, 3, none⟩ = some (.int .u32 (k.toNat : Int)) := d3
  have td3 : ({ W1 with drawn := W1.drawn + 1 } : World).cell? ⟨g, 3, none⟩ = some (.int .u32 (k.toNat : Int)) := ud3
  have up : W1.cell? ⟨b, 21, none⟩ = some (.int .i64 (s.place : Int)) := World.rowIs.cell HM1.out (i := 21) (by decide)
  have tp : ({ W1 with drawn := W1.drawn + 1 } : World).cell? ⟨b, 21, none⟩ = some (.int .i64 (s.place : Int)) := up
  go_still_tail 10, (by kernel_rfl)
  change wpList _ _ _ _ _ W1.drew
  clear d0 d1 d2 d3 ud0 td0 ud1 td1 ud2 td2 ud3 td3 up tp
  have HM2 := Lib.hid HM1.out.drew
  have G2 : Hid (w.grownBy W1.drew (some b)) := Lib.hid (grown_drawn G1.out 1)
  clear HM1 HD G1
  generalize W1.drew = W2 at HM2 G2 ⊢
  have z21 := World.rowIs.frozen HM2.out 21
  have c21 : W2.cell? ⟨b, 21, none⟩ = some (.int .i64 (s.place : Int)) := World.rowIs.cell HM2.out (i := 21) (by decide)
  go_wp2
  go_end0
  exact ⟨rfl, HM2.out.set_place (s.place + k.toNat), grown_cell G2.out 21 _⟩
set_option maxHeartbeats 1000000 in
theorem p_branch_t (h : PMAt w b qv dv mv s) (hp : s.place ≤ 140737488351232) (hj : jt < 256) : Calls Tryz.prog 122 #[.pointer (some ⟨b, 0, none⟩), .agg #[.int .u16 c, .int .u8 (jt : Int), .int .u8 (jf : Int), .int .u32 (k.toNat : Int)], .bool true] w (OpP w b qv dv mv { s with place := s.place + jt }) := by
  have hlt := World.rowIs.lt h
  have HM1 := Lib.hid (h.alloc (insO c jt jf k))
  have HD := Lib.hid (ins_box w c jt jf k)
  have G1 := Lib.hid (grown_alloc (World.grownBy.refl w (some b)) (insO c jt jf k))
  have hwp : IntKind.i64.wrap ((s.place : Int) + (jt : Int)) = (s.place : Int) + (jt : Int) := IntWalk.i64_in _ (by omega)
  clear h
  go_enter Tryz.func122, Tryz.ntmps122
  go_wp2
  generalize w.alloc (insO c jt jf k) = W1 at HM1 HD G1 ⊢
  generalize w.heap.size = g at HD hlt ⊢
  obtain ⟨d0, d1, d2, d3⟩ := ins_cells HD.out
  have ud0 : W1.cell? ⟨g, 0, none⟩ = some (.int .u16 c) := d0
  have td0 : ({ W1 with drawn := W1.drawn + 1 } : World).cell? ⟨g, 0, none⟩ = some (.int .u16 c) := ud0
  have ud1 : W1.cell? ⟨g, 1, none⟩ = some (.int .u8 (jt : Int)) := d1
  have td1 : ({ W1 with drawn := W1.drawn + 1 } : World).cell? ⟨g, 1, none⟩ = some (.int .u8 (jt : Int)) := ud1
  have ud2 : W1.cell? ⟨g, 2, none⟩ = some (.int .u8 (jf : Int)) := d2
  have td2 : ({ W1 with drawn := W1.drawn + 1 } : World).cell? ⟨g, 2, none⟩ = some (.int .u8 (jf : Int)) := ud2
  have ud3 : W1.cell? ⟨g, 3, none⟩ = some (.int .u32 (k.toNat : Int)) := d3
  have td3 : ({ W1 with drawn := W1.drawn + 1 } : World).cell? ⟨g, 3, none⟩ = some (.int .u32 (k.toNat : Int)) := ud3
  have up : W1.cell? ⟨b, 21, none⟩ = some (.int .i64 (s.place : Int)) := World.rowIs.cell HM1.out (i := 21) (by decide)
  have tp : ({ W1 with drawn := W1.drawn + 1 } : World).cell? ⟨b, 21, none⟩ = some (.int .i64 (s.place : Int)) := up
  go_still_tail 10, (by kernel_rfl)
  change wpList _ _ _ _ _ W1.drew
  clear d0 d1 d2 d3 ud0 td0 ud1 td1 ud2 td2 ud3 td3 up tp
  have HM2 := Lib.hid HM1.out.drew
  have G2 : Hid (w.grownBy W1.drew (some b)) := Lib.hid (grown_drawn G1.out 1)
  clear HM1 HD G1
  generalize W1.drew = W2 at HM2 G2 ⊢
  have z21 := World.rowIs.frozen HM2.out 21
  have c21 : W2.cell? ⟨b, 21, none⟩ = some (.int .i64 (s.place : Int)) := World.rowIs.cell HM2.out (i := 21) (by decide)
  go_wp2
  go_end0
  exact ⟨rfl, HM2.out.set_place (s.place + jt), grown_cell G2.out 21 _⟩
set_option maxHeartbeats 1000000 in
theorem p_branch_f (h : PMAt w b qv dv mv s) (hp : s.place ≤ 140737488351232) (hj : jf < 256) : Calls Tryz.prog 122 #[.pointer (some ⟨b, 0, none⟩), .agg #[.int .u16 c, .int .u8 (jt : Int), .int .u8 (jf : Int), .int .u32 (k.toNat : Int)], .bool false] w (OpP w b qv dv mv { s with place := s.place + jf }) := by
  have hlt := World.rowIs.lt h
  have HM1 := Lib.hid (h.alloc (insO c jt jf k))
  have HD := Lib.hid (ins_box w c jt jf k)
  have G1 := Lib.hid (grown_alloc (World.grownBy.refl w (some b)) (insO c jt jf k))
  have hwp : IntKind.i64.wrap ((s.place : Int) + (jf : Int)) = (s.place : Int) + (jf : Int) := IntWalk.i64_in _ (by omega)
  clear h
  go_enter Tryz.func122, Tryz.ntmps122
  go_wp2
  generalize w.alloc (insO c jt jf k) = W1 at HM1 HD G1 ⊢
  generalize w.heap.size = g at HD hlt ⊢
  obtain ⟨d0, d1, d2, d3⟩ := ins_cells HD.out
  have ud0 : W1.cell? ⟨g, 0, none⟩ = some (.int .u16 c) := d0
  have td0 : ({ W1 with drawn := W1.drawn + 1 } : World).cell? ⟨g, 0, none⟩ = some (.int .u16 c) := ud0
  have ud1 : W1.cell? ⟨g, 1, none⟩ = some (.int .u8 (jt : Int)) := d1
  have td1 : ({ W1 with drawn := W1.drawn + 1 } : World).cell? ⟨g, 1, none⟩ = some (.int .u8 (jt : Int)) := ud1
  have ud2 : W1.cell? ⟨g, 2, none⟩ = some (.int .u8 (jf : Int)) := d2
  have td2 : ({ W1 with drawn := W1.drawn + 1 } : World).cell? ⟨g, 2, none⟩ = some (.int .u8 (jf : Int)) := ud2
  have ud3 : W1.cell? ⟨g, 3, none⟩ = some (.int .u32 (k.toNat : Int)) := d3
  have td3 : ({ W1 with drawn := W1.drawn + 1 } : World).cell? ⟨g, 3, none⟩ = some (.int .u32 (k.toNat : Int)) := ud3
  have up : W1.cell? ⟨b, 21, none⟩ = some (.int .i64 (s.place : Int)) := World.rowIs.cell HM1.out (i := 21) (by decide)
  have tp : ({ W1 with drawn := W1.drawn + 1 } : World).cell? ⟨b, 21, none⟩ = some (.int .i64 (s.place : Int)) := up
  go_still_tail 10, (by kernel_rfl)
  change wpList _ _ _ _ _ W1.drew
  clear d0 d1 d2 d3 ud0 td0 ud1 td1 ud2 td2 ud3 td3 up tp
  have HM2 := Lib.hid HM1.out.drew
  have G2 : Hid (w.grownBy W1.drew (some b)) := Lib.hid (grown_drawn G1.out 1)
  clear HM1 HD G1
  generalize W1.drew = W2 at HM2 G2 ⊢
  have z21 := World.rowIs.frozen HM2.out 21
  have c21 : W2.cell? ⟨b, 21, none⟩ = some (.int .i64 (s.place : Int)) := World.rowIs.cell HM2.out (i := 21) (by decide)
  go_wp2
  go_end0
  exact ⟨rfl, HM2.out.set_place (s.place + jf), grown_cell G2.out 21 _⟩
set_option maxHeartbeats 1000000 in
theorem p_load (db doff dcap : Nat) (z : Nat → Int) (hd : Bytes64 w db doff z) (h : PMAt w b qv (.slice (some ⟨db, doff, none⟩) 64 dcap) mv s) (hk : k.toNat ≤ 60) (hk4 : k.toNat % 4 = 0) : Calls Tryz.prog 77 #[.pointer (some ⟨b, 0, none⟩), .agg #[.int .u16 c, .int .u8 (jt : Int), .int .u8 (jf : Int), .int .u32 (k.toNat : Int)]] w (OpP w b qv (.slice (some ⟨db, doff, none⟩) 64 dcap) mv { s with a := wordZ z k.toNat }) := by
  have hlt := World.rowIs.lt h
  have HM1 := Lib.hid (h.alloc (insO c jt jf k))
  have HD := Lib.hid (ins_box w c jt jf k)
  have G1 := Lib.hid (grown_alloc (World.grownBy.refl w (some b)) (insO c jt jf k))
  have HD1 := Lib.hid (hd.below (box_below w (insO c jt jf k)) hd.1)
  have HK := Lib.hid hk4
  have hkl := k.isLt
  have hwk : IntKind.i64.wrap (k.toNat : Int) = (k.toNat : Int) := IntWalk.i64_in _ (by omega)
  have HV := Lib.hid (wordZ_nat hd.2.1 k.toNat)
  clear hd hk4
  clear h
  go_enter Tryz.func77, Tryz.ntmps77
  go_wp2
  generalize w.alloc (insO c jt jf k) = W1 at HM1 HD HD1 G1 ⊢
  generalize w.heap.size = g at HD hlt ⊢
  have hne : ¬ g = b := by omega
  refine wp_region_held_drew (S := fun w' => w'.rowIs g 60 4 (insF ⟨c, jt, jf, k⟩) ∧ w'.cell? ⟨b, 1, none⟩ = some (.slice (some ⟨db, doff, none⟩) 64 dcap)) (by kernel_rfl) ⟨HD.out, World.rowIs.cell HM1.out (i := 1) (by decide)⟩ (fun hHeld => ?_)
  have HM2 := Lib.hid HM1.out.drew
  have HD2 : Hid (Bytes64 W1.drew db doff z) := Lib.hid (HD1.out.drawn 1)
  have G2 : Hid (w.grownBy W1.drew (some b)) := Lib.hid (grown_drawn G1.out 1)
  clear HM1 HD HD1 G1
  generalize W1.drew = W2 at HM2 HD2 G2 hHeld ⊢
  refine wpAnyH_take (i := 0) (v := ?_) rfl (by kernel_rfl) (by kernel_rfl) (by kernel_rfl) (fun _ _ _ h => h) (Or.inl ⟨by rfl, ?_⟩) (by assumption) ?_
  rotate_left
  · intro wS hSw
    (obtain ⟨q0, q1, q2, q3⟩ := ins_cells hSw.1; have q4 := hSw.2; clear hSw)
    go_simp
    all_goals with_reducible rfl
  (try simp only [Act.put, List.setIfInBounds_toArray, List.set_cons_zero, List.set_cons_succ])
  refine wpAnyH_take (i := 1) (v := ?_) rfl (by kernel_rfl) (by kernel_rfl) (by kernel_rfl) (fun _ _ _ h => h) (Or.inl ⟨by rfl, ?_⟩) (by assumption) ?_
  rotate_left
  · intro wS hSw
    (obtain ⟨q0, q1, q2, q3⟩ := ins_cells hSw.1; have q4 := hSw.2; clear hSw)
    go_simp
    all_goals with_reducible rfl
  (try simp only [Act.put, List.setIfInBounds_toArray, List.set_cons_zero, List.set_cons_succ])
  refine wpAnyH_take (i := 2) (v := ?_) rfl (by kernel_rfl) (by kernel_rfl) (by kernel_rfl) (fun _ _ _ h => h) (Or.inl ⟨by rfl, ?_⟩) (by assumption) ?_
  rotate_left
  · intro wS hSw
    (obtain ⟨q0, q1, q2, q3⟩ := ins_cells hSw.1; have q4 := hSw.2; clear hSw)
    go_simp
    all_goals with_reducible rfl
  (try simp only [Act.put, List.setIfInBounds_toArray, List.set_cons_zero, List.set_cons_succ])
  refine wpAnyH_take (i := 3) (v := ?_) rfl (by kernel_rfl) (by kernel_rfl) (by kernel_rfl) (fun _ _ _ h => h) (Or.inl ⟨by rfl, ?_⟩) (by assumption) ?_
  rotate_left
  · intro wS hSw
    (obtain ⟨q0, q1, q2, q3⟩ := ins_cells hSw.1; have q4 := hSw.2; clear hSw)
    go_simp
    all_goals with_reducible rfl
  (try simp only [Act.put, List.setIfInBounds_toArray, List.set_cons_zero, List.set_cons_succ])
  refine wpAnyH_take (i := 4) (v := ?_) rfl (by kernel_rfl) (by kernel_rfl) (by kernel_rfl) (fun _ _ _ h => h) (Or.inl ⟨by rfl, ?_⟩) (by assumption) ?_
  rotate_left
  · intro wS hSw
    (obtain ⟨q0, q1, q2, q3⟩ := ins_cells hSw.1; have q4 := hSw.2; clear hSw)
    go_simp
    all_goals with_reducible rfl
  (try simp only [Act.put, List.setIfInBounds_toArray, List.set_cons_zero, List.set_cons_succ])
  refine wpAnyH_take (i := 5) (v := ?_) rfl (by kernel_rfl) (by kernel_rfl) (by kernel_rfl) (fun _ _ _ h => h) (Or.inl ⟨by rfl, ?_⟩) (by assumption) ?_
  rotate_left
  · intro wS hSw
    (obtain ⟨q0, q1, q2, q3⟩ := ins_cells hSw.1; have q4 := hSw.2; clear hSw)
    go_simp
    all_goals with_reducible rfl
  (try simp only [Act.put, List.setIfInBounds_toArray, List.set_cons_zero, List.set_cons_succ])
  refine wpAnyH_take (i := 6) (v := ?_) rfl (by kernel_rfl) (by kernel_rfl) (by kernel_rfl) (fun _ _ _ h => h) (Or.inl ⟨by rfl, ?_⟩) (by assumption) ?_
  rotate_left
  · intro wS hSw
    (obtain ⟨q0, q1, q2, q3⟩ := ins_cells hSw.1; have q4 := hSw.2; clear hSw)
    go_simp
    all_goals with_reducible rfl
  (try simp only [Act.put, List.setIfInBounds_toArray, List.set_cons_zero, List.set_cons_succ])
  refine wpAnyH_take (i := 7) (v := ?_) rfl (by kernel_rfl) (by kernel_rfl) (by kernel_rfl) (fun _ _ _ h => h) (Or.inl ⟨by rfl, ?_⟩) (by assumption) ?_
  rotate_left
  · intro wS hSw
    (obtain ⟨q0, q1, q2, q3⟩ := ins_cells hSw.1; have q4 := hSw.2; clear hSw)
    go_simp
    all_goals with_reducible rfl
  (try simp only [Act.put, List.setIfInBounds_toArray, List.set_cons_zero, List.set_cons_succ])
  refine held_one (i := 8) (by kernel_rfl) rfl (fun K hK => ?_)
  go_simp
  go_at_call 76
  refine (secdata_Word db doff dcap z k.toNat hk HK.out _ HD2.out).mono ?_
  rintro e w4 ⟨rfl, rfl⟩
  refine hK.out _ _ hHeld (fun hHeld => ?_)
  clear hK K
  (try simp only [Act.put, List.setIfInBounds_toArray, List.set_cons_zero, List.set_cons_succ])
  refine wpAnyH_take (i := 9) (v := ?_) rfl (by kernel_rfl) (by kernel_rfl) (by kernel_rfl) (fun _ _ _ h => h) (Or.inl ⟨by rfl, ?_⟩) (by assumption) ?_
  rotate_left
  · intro wS hSw
    (skip)
    go_simp
    all_goals with_reducible rfl
  (try simp only [Act.put, List.setIfInBounds_toArray, List.set_cons_zero, List.set_cons_succ])
  refine wpAnyH_take (i := 10) (v := ?_) rfl (by kernel_rfl) (by kernel_rfl) (by kernel_rfl) (fun _ _ _ h => h) (Or.inl ⟨by rfl, ?_⟩) (by assumption) ?_
  rotate_left
  · intro wS hSw
    (skip)
    go_simp
    all_goals with_reducible rfl
  (try simp only [Act.put, List.setIfInBounds_toArray, List.set_cons_zero, List.set_cons_succ])
  refine wpAnyH_take (i := 11) (v := ?_) rfl (by kernel_rfl) (by kernel_rfl) (by kernel_rfl) (fun _ _ _ h => h) (Or.inl ⟨by rfl, ?_⟩) (by assumption) ?_
  rotate_left
  · intro wS hSw
    (skip)
    go_simp
    all_goals with_reducible rfl
  (try simp only [Act.put, List.setIfInBounds_toArray, List.set_cons_zero, List.set_cons_succ])
  refine wpAnyH_take (i := 12) (v := ?_) rfl (by kernel_rfl) (by kernel_rfl) (by kernel_rfl) (fun _ _ _ h => h) (Or.inl ⟨by rfl, ?_⟩) (by assumption) ?_
  rotate_left
  · intro wS hSw
    (skip)
    go_simp
    all_goals with_reducible rfl
  (try simp only [Act.put, List.setIfInBounds_toArray, List.set_cons_zero, List.set_cons_succ])
  refine wpAnyH_take (i := 13) (v := ?_) rfl (by kernel_rfl) (by kernel_rfl) (by kernel_rfl) (fun _ _ _ h => h) (Or.inl ⟨by rfl, ?_⟩) (by assumption) ?_
  rotate_left
  · intro wS hSw
    (skip)
    go_simp
    all_goals with_reducible rfl
  (try simp only [Act.put, List.setIfInBounds_toArray, List.set_cons_zero, List.set_cons_succ])
  have c3 : W2.cell? ⟨b, 3, none⟩ = some (.int .u32 (s.a.toNat : Int)) := World.rowIs.cell HM2.out (i := 3) (by decide)
  have z3 := World.rowIs.frozen HM2.out 3
  refine held_one (i := 14) (by kernel_rfl) rfl (fun K hK => ?_)
  go_simp
  refine hK.out _ _ ⟨World.rowIs.setOther hHeld.1 (a := ⟨b, 3, none⟩) hne _, (World.cell?_setCell_other _ _ _ _ (by simp)).trans hHeld.2⟩ (fun _ => ?_)
  refine wpAnyH_done (by kernel_rfl) ?_ _
  go_wp2
  go_end0
  have q := HM2.out.set_a (wordZ z k.toNat)
  rw [HV.out] at q
  exact ⟨rfl, q, grown_cell G2.out 3 _⟩
theorem p_end_zero (h : PMAt w b qv dv mv s) : Calls Tryz.prog 121 #[.pointer (some ⟨b, 0, none⟩), .int .u32 0] w (OpP w b qv dv mv { s with done := true, ans := 0#32 }) := p_end w b qv dv mv s 0#32 h
set_option maxHeartbeats 1000000 in
theorem p_div_0 (h : PMAt w b qv dv mv s) (hv : Opnd c k s v) (h0 : v = 0#32) : Calls Tryz.prog 89 #[.pointer (some ⟨b, 0, none⟩), .agg #[.int .u16 c, .int .u8 (jt : Int), .int .u8 (jf : Int), .int .u32 (k.toNat : Int)]] w (OpP w b qv dv mv { s with done := true, ans := 0#32 }) := by
  have hlt := World.rowIs.lt h
  have HM1 := Lib.hid (h.alloc (insO c jt jf k))
  have HD := Lib.hid (ins_box w c jt jf k)
  have G1 := Lib.hid (grown_alloc (World.grownBy.refl w (some b)) (insO c jt jf k))
  have hz : (v.toNat : Int) = 0 := by rw [h0]; rfl
  clear h0
  clear h
  go_enter Tryz.func89, Tryz.ntmps89
  go_wp2_with (first
    | (go_at_call 120; (with_reducible refine (p_operand _ b qv dv mv s c jt jf k v HM1.out hv).mono ?_); rintro e w4 ⟨rfl, rfl⟩; have HM3 := Lib.hid (HM1.out.alloc (insO c jt jf k)); have G3 := Lib.hid (grown_alloc G1.out (insO c jt jf k)); clear HM1 G1 HD; generalize (w.alloc (insO c jt jf k)).alloc (insO c jt jf k) = W3 at HM3 G3 ⊢; have n3 : W3.cell? ⟨b, 3, none⟩ = some (.int .u32 (s.a.toNat : Int)) := World.rowIs.cell HM3.out (i := 3) (by decide); have z3 := World.rowIs.frozen HM3.out 3)
    | (go_at_call 121; (with_reducible refine (p_end_zero _ b qv dv mv s HM3.out).mono ?_); rintro e w5 ⟨rfl, hm, hg⟩; have HM4 := Lib.hid (And.intro hm hg); clear hm hg))
  (first | go_end0 | (refine bodyPost_ret (v := .tuple #[]) rfl rfl ?_))
  exact ⟨rfl, HM4.out.1, grown_trans G3.out HM4.out.2⟩
set_option maxHeartbeats 1000000 in
theorem p_div_n (h : PMAt w b qv dv mv s) (hv : Opnd c k s v) (h0 : ¬ v = 0#32) : Calls Tryz.prog 89 #[.pointer (some ⟨b, 0, none⟩), .agg #[.int .u16 c, .int .u8 (jt : Int), .int .u8 (jf : Int), .int .u32 (k.toNat : Int)]] w (OpP w b qv dv mv { s with a := s.a / v }) := by
  have hlt := World.rowIs.lt h
  have HM1 := Lib.hid (h.alloc (insO c jt jf k))
  have HD := Lib.hid (ins_box w c jt jf k)
  have G1 := Lib.hid (grown_alloc (World.grownBy.refl w (some b)) (insO c jt jf k))
  have hz : ¬ (v.toNat : Int) = 0 := fun g => h0 (BitVec.eq_of_toNat_eq (by simpa using g))
  clear h0
  clear h
  go_enter Tryz.func89, Tryz.ntmps89
  go_wp2_with (first
    | (go_at_call 120; (with_reducible refine (p_operand _ b qv dv mv s c jt jf k v HM1.out hv).mono ?_); rintro e w4 ⟨rfl, rfl⟩; have HM3 := Lib.hid (HM1.out.alloc (insO c jt jf k)); have G3 := Lib.hid (grown_alloc G1.out (insO c jt jf k)); clear HM1 G1 HD; generalize (w.alloc (insO c jt jf k)).alloc (insO c jt jf k) = W3 at HM3 G3 ⊢; have n3 : W3.cell? ⟨b, 3, none⟩ = some (.int .u32 (s.a.toNat : Int)) := World.rowIs.cell HM3.out (i := 3) (by decide); have z3 := World.rowIs.frozen HM3.out 3)
    | (go_at_call 121; (with_reducible refine (p_end_zero _ b qv dv mv s HM3.out).mono ?_); rintro e w5 ⟨rfl, hm, hg⟩; have HM4 := Lib.hid (And.intro hm hg); clear hm hg))
  go_end0
  have q5 := HM3.out.set_a (s.a / v)
  have e : ((s.a.toNat : Int) / (v.toNat : Int)) % 4294967296 = ((s.a / v).toNat : Int) := by
    rw [div32]; have := (s.a / v).isLt; omega
  rw [← e] at q5
  exact ⟨rfl, q5, grown_cell G3.out 3 _⟩
set_option maxHeartbeats 1000000 in
theorem p_returnConst (h : PMAt w b qv dv mv s) : Calls Tryz.prog 101 #[.pointer (some ⟨b, 0, none⟩), .agg #[.int .u16 c, .int .u8 (jt : Int), .int .u8 (jf : Int), .int .u32 (k.toNat : Int)]] w (OpP w b qv dv mv { s with done := true, ans := k }) := by
  have hlt := World.rowIs.lt h
  have HM1 := Lib.hid (h.alloc (insO c jt jf k))
  have HD := Lib.hid (ins_box w c jt jf k)
  have G1 := Lib.hid (grown_alloc (World.grownBy.refl w (some b)) (insO c jt jf k))
  have c3 : w.cell? ⟨b, 3, none⟩ = some (.int .u32 (s.a.toNat : Int)) := World.rowIs.cell h (i := 3) (by decide)
  clear h
  go_enter Tryz.func101, Tryz.ntmps101
  go_wp2_with (go_at_call 121; (with_reducible refine (p_end _ b qv dv mv s (k) HM1.out).mono ?_); rintro e w5 ⟨rfl, hm, hg⟩; have HM4 := Lib.hid (And.intro hm hg); clear hm hg)
  go_end0
  exact ⟨rfl, HM4.out.1, grown_trans G1.out HM4.out.2⟩
set_option maxHeartbeats 1000000 in
theorem p_returnA (h : PMAt w b qv dv mv s) : Calls Tryz.prog 102 #[.pointer (some ⟨b, 0, none⟩), .agg #[.int .u16 c, .int .u8 (jt : Int), .int .u8 (jf : Int), .int .u32 (k.toNat : Int)]] w (OpP w b qv dv mv { s with done := true, ans := s.a }) := by
  have hlt := World.rowIs.lt h
  have HM1 := Lib.hid (h.alloc (insO c jt jf k))
  have HD := Lib.hid (ins_box w c jt jf k)
  have G1 := Lib.hid (grown_alloc (World.grownBy.refl w (some b)) (insO c jt jf k))
  have c3 : w.cell? ⟨b, 3, none⟩ = some (.int .u32 (s.a.toNat : Int)) := World.rowIs.cell h (i := 3) (by decide)
  clear h
  go_enter Tryz.func102, Tryz.ntmps102
  go_wp2_with (go_at_call 121; (with_reducible refine (p_end _ b qv dv mv s (s.a) HM1.out).mono ?_); rintro e w5 ⟨rfl, hm, hg⟩; have HM4 := Lib.hid (And.intro hm hg); clear hm hg)
  go_end0
  exact ⟨rfl, HM4.out.1, grown_trans G1.out HM4.out.2⟩
set_option maxHeartbeats 1000000 in
theorem p_ifEqual_t (h : PMAt w b qv dv mv s) (hv : Opnd c k s s.a) (hp : s.place ≤ 140737488351232) (hj : jt < 256) : Calls Tryz.prog 97 #[.pointer (some ⟨b, 0, none⟩), .agg #[.int .u16 c, .int .u8 (jt : Int), .int .u8 (jf : Int), .int .u32 (k.toNat : Int)]] w (OpP w b qv dv mv { s with place := s.place + jt }) := by
  have hlt := World.rowIs.lt h
  have HM1 := Lib.hid (h.alloc (insO c jt jf k))
  have HD := Lib.hid (ins_box w c jt jf k)
  have G1 := Lib.hid (grown_alloc (World.grownBy.refl w (some b)) (insO c jt jf k))
  clear h
  go_enter Tryz.func97, Tryz.ntmps97
  go_wp2
  generalize w.alloc (insO c jt jf k) = W1 at HM1 HD G1 ⊢
  generalize w.heap.size = g at HD hlt ⊢
  have hne : ¬ g = b := by omega
  refine wp_region_held_drew (S := fun w' => w'.rowIs g 60 4 (insF ⟨c, jt, jf, k⟩) ∧ w'.cell? ⟨b, 3, none⟩ = some (.int .u32 (s.a.toNat : Int))) (by kernel_rfl) ⟨HD.out, World.rowIs.cell HM1.out (i := 3) (by decide)⟩ (fun hHeld => ?_)
  have HM2 := Lib.hid HM1.out.drew
  have G2 : Hid (w.grownBy W1.drew (some b)) := Lib.hid (grown_drawn G1.out 1)
  clear HM1 HD G1
  generalize W1.drew = W2 at HM2 G2 hHeld ⊢
  refine wpAnyH_take (i := 0) (v := ?_) rfl (by kernel_rfl) (by kernel_rfl) (by kernel_rfl) (fun _ _ _ h => h) (Or.inl ⟨by rfl, ?_⟩) (by assumption) ?_
  rotate_left
  · intro wS hSw
    (obtain ⟨q0, q1, q2, q3⟩ := ins_cells hSw.1; have q4 := hSw.2; clear hSw)
    go_simp
    all_goals with_reducible rfl
  (try simp only [Act.put, List.setIfInBounds_toArray, List.set_cons_zero, List.set_cons_succ])
  refine wpAnyH_take (i := 1) (v := ?_) rfl (by kernel_rfl) (by kernel_rfl) (by kernel_rfl) (fun _ _ _ h => h) (Or.inl ⟨by rfl, ?_⟩) (by assumption) ?_
  rotate_left
  · intro wS hSw
    (obtain ⟨q0, q1, q2, q3⟩ := ins_cells hSw.1; have q4 := hSw.2; clear hSw)
    go_simp
    all_goals with_reducible rfl
  (try simp only [Act.put, List.setIfInBounds_toArray, List.set_cons_zero, List.set_cons_succ])
  refine wpAnyH_take (i := 2) (v := ?_) rfl (by kernel_rfl) (by kernel_rfl) (by kernel_rfl) (fun _ _ _ h => h) (Or.inl ⟨by rfl, ?_⟩) (by assumption) ?_
  rotate_left
  · intro wS hSw
    (obtain ⟨q0, q1, q2, q3⟩ := ins_cells hSw.1; have q4 := hSw.2; clear hSw)
    go_simp
    all_goals with_reducible rfl
  (try simp only [Act.put, List.setIfInBounds_toArray, List.set_cons_zero, List.set_cons_succ])
  refine wpAnyH_take (i := 3) (v := ?_) rfl (by kernel_rfl) (by kernel_rfl) (by kernel_rfl) (fun _ _ _ h => h) (Or.inl ⟨by rfl, ?_⟩) (by assumption) ?_
  rotate_left
  · intro wS hSw
    (obtain ⟨q0, q1, q2, q3⟩ := ins_cells hSw.1; have q4 := hSw.2; clear hSw)
    go_simp
    all_goals with_reducible rfl
  (try simp only [Act.put, List.setIfInBounds_toArray, List.set_cons_zero, List.set_cons_succ])
  refine wpAnyH_take (i := 4) (v := ?_) rfl (by kernel_rfl) (by kernel_rfl) (by kernel_rfl) (fun _ _ _ h => h) (Or.inl ⟨by rfl, ?_⟩) (by assumption) ?_
  rotate_left
  · intro wS hSw
    (obtain ⟨q0, q1, q2, q3⟩ := ins_cells hSw.1; have q4 := hSw.2; clear hSw)
    go_simp
    all_goals with_reducible rfl
  (try simp only [Act.put, List.setIfInBounds_toArray, List.set_cons_zero, List.set_cons_succ])
  refine wpAnyH_take (i := 5) (v := ?_) rfl (by kernel_rfl) (by kernel_rfl) (by kernel_rfl) (fun _ _ _ h => h) (Or.inl ⟨by rfl, ?_⟩) (by assumption) ?_
  rotate_left
  · intro wS hSw
    (obtain ⟨q0, q1, q2, q3⟩ := ins_cells hSw.1; have q4 := hSw.2; clear hSw)
    go_simp
    all_goals with_reducible rfl
  (try simp only [Act.put, List.setIfInBounds_toArray, List.set_cons_zero, List.set_cons_succ])
  refine wpAnyH_take (i := 6) (v := ?_) rfl (by kernel_rfl) (by kernel_rfl) (by kernel_rfl) (fun _ _ _ h => h) (Or.inl ⟨by rfl, ?_⟩) (by assumption) ?_
  rotate_left
  · intro wS hSw
    (obtain ⟨q0, q1, q2, q3⟩ := ins_cells hSw.1; have q4 := hSw.2; clear hSw)
    go_simp
    all_goals with_reducible rfl
  (try simp only [Act.put, List.setIfInBounds_toArray, List.set_cons_zero, List.set_cons_succ])
  refine wpAnyH_take (i := 7) (v := ?_) rfl (by kernel_rfl) (by kernel_rfl) (by kernel_rfl) (fun _ _ _ h => h) (Or.inl ⟨by rfl, ?_⟩) (by assumption) ?_
  rotate_left
  · intro wS hSw
    (obtain ⟨q0, q1, q2, q3⟩ := ins_cells hSw.1; have q4 := hSw.2; clear hSw)
    go_simp
    all_goals with_reducible rfl
  (try simp only [Act.put, List.setIfInBounds_toArray, List.set_cons_zero, List.set_cons_succ])
  refine held_one (i := 8) (by kernel_rfl) rfl (fun K hK => ?_)
  go_simp
  go_at_call 120
  refine (p_operand _ b qv dv mv s c jt jf k s.a HM2.out hv).mono ?_
  rintro e w4 ⟨rfl, rfl⟩
  have HM3 := Lib.hid (HM2.out.alloc (insO c jt jf k))
  refine hK.out _ _ ⟨World.rowIs.alloc hHeld.1 _, World.rowIs.cell HM3.out (i := 3) (by decide)⟩ (fun hHeld => ?_)
  have G3 := Lib.hid (grown_alloc G2.out (insO c jt jf k))
  clear hK K HM2 G2
  generalize W2.alloc (insO c jt jf k) = W3 at HM3 G3 hHeld ⊢
  (try simp only [Act.put, List.setIfInBounds_toArray, List.set_cons_zero, List.set_cons_succ])
  refine wpAnyH_take (i := 9) (v := ?_) rfl (by kernel_rfl) (by kernel_rfl) (by kernel_rfl) (fun _ _ _ h => h) (Or.inl ⟨by rfl, ?_⟩) (by assumption) ?_
  rotate_left
  · intro wS hSw
    (skip)
    go_simp
    all_goals with_reducible rfl
  (try simp only [Act.put, List.setIfInBounds_toArray, List.set_cons_zero, List.set_cons_succ])
  refine held_one (i := 10) (by kernel_rfl) rfl (fun K hK => ?_)
  go_simp
  go_at_call 122
  refine (p_branch_t _ b qv dv mv s c jt jf k HM3.out hp hj).mono ?_
  rintro e w5 ⟨rfl, hm, hg⟩
  refine hK.out _ _ ⟨rowIs_grown hHeld.1 hg (fun e => hne (by injection e)), World.rowIs.cell hm (i := 3) (by decide)⟩ (fun _ => ?_)
  refine wpAnyH_done (by kernel_rfl) ?_ _
  go_wp2
  go_end0
  exact ⟨rfl, hm, grown_trans G3.out hg⟩
set_option maxHeartbeats 1000000 in
theorem p_ifEqual_f (h : PMAt w b qv dv mv s) (hv : Opnd c k s v) (hq : ¬ s.a = v) (hp : s.place ≤ 140737488351232) (hj : jf < 256) : Calls Tryz.prog 97 #[.pointer (some ⟨b, 0, none⟩), .agg #[.int .u16 c, .int .u8 (jt : Int), .int .u8 (jf : Int), .int .u32 (k.toNat : Int)]] w (OpP w b qv dv mv { s with place := s.place + jf }) := by
  have hlt := World.rowIs.lt h
  have HM1 := Lib.hid (h.alloc (insO c jt jf k))
  have HD := Lib.hid (ins_box w c jt jf k)
  have G1 := Lib.hid (grown_alloc (World.grownBy.refl w (some b)) (insO c jt jf k))
  have hq' : ¬ (s.a.toNat : Int) = (v.toNat : Int) := fun g => hq (BitVec.eq_of_toNat_eq (by omega))
  clear hq
  clear h
  go_enter Tryz.func97, Tryz.ntmps97
  go_wp2
  generalize w.alloc (insO c jt jf k) = W1 at HM1 HD G1 ⊢
  generalize w.heap.size = g at HD hlt ⊢
  have hne : ¬ g = b := by omega
  refine wp_region_held_drew (S := fun w' => w'.rowIs g 60 4 (insF ⟨c, jt, jf, k⟩) ∧ w'.cell? ⟨b, 3, none⟩ = some (.int .u32 (s.a.toNat : Int))) (by kernel_rfl) ⟨HD.out, World.rowIs.cell HM1.out (i := 3) (by decide)⟩ (fun hHeld => ?_)
  have HM2 := Lib.hid HM1.out.drew
  have G2 : Hid (w.grownBy W1.drew (some b)) := Lib.hid (grown_drawn G1.out 1)
  clear HM1 HD G1
  generalize W1.drew = W2 at HM2 G2 hHeld ⊢
  refine wpAnyH_take (i := 0) (v := ?_) rfl (by kernel_rfl) (by kernel_rfl) (by kernel_rfl) (fun _ _ _ h => h) (Or.inl ⟨by rfl, ?_⟩) (by assumption) ?_
  rotate_left
  · intro wS hSw
    (obtain ⟨q0, q1, q2, q3⟩ := ins_cells hSw.1; have q4 := hSw.2; clear hSw)
    go_simp
    all_goals with_reducible rfl
  (try simp only [Act.put, List.setIfInBounds_toArray, List.set_cons_zero, List.set_cons_succ])
  refine wpAnyH_take (i := 1) (v := ?_) rfl (by kernel_rfl) (by kernel_rfl) (by kernel_rfl) (fun _ _ _ h => h) (Or.inl ⟨by rfl, ?_⟩) (by assumption) ?_
  rotate_left
  · intro wS hSw
    (obtain ⟨q0, q1, q2, q3⟩ := ins_cells hSw.1; have q4 := hSw.2; clear hSw)
    go_simp
    all_goals with_reducible rfl
  (try simp only [Act.put, List.setIfInBounds_toArray, List.set_cons_zero, List.set_cons_succ])
  refine wpAnyH_take (i := 2) (v := ?_) rfl (by kernel_rfl) (by kernel_rfl) (by kernel_rfl) (fun _ _ _ h => h) (Or.inl ⟨by rfl, ?_⟩) (by assumption) ?_
  rotate_left
  · intro wS hSw
    (obtain ⟨q0, q1, q2, q3⟩ := ins_cells hSw.1; have q4 := hSw.2; clear hSw)
    go_simp
    all_goals with_reducible rfl
  (try simp only [Act.put, List.setIfInBounds_toArray, List.set_cons_zero, List.set_cons_succ])
  refine wpAnyH_take (i := 3) (v := ?_) rfl (by kernel_rfl) (by kernel_rfl) (by kernel_rfl) (fun _ _ _ h => h) (Or.inl ⟨by rfl, ?_⟩) (by assumption) ?_
  rotate_left
  · intro wS hSw
    (obtain ⟨q0, q1, q2, q3⟩ := ins_cells hSw.1; have q4 := hSw.2; clear hSw)
    go_simp
    all_goals with_reducible rfl
  (try simp only [Act.put, List.setIfInBounds_toArray, List.set_cons_zero, List.set_cons_succ])
  refine wpAnyH_take (i := 4) (v := ?_) rfl (by kernel_rfl) (by kernel_rfl) (by kernel_rfl) (fun _ _ _ h => h) (Or.inl ⟨by rfl, ?_⟩) (by assumption) ?_
  rotate_left
  · intro wS hSw
    (obtain ⟨q0, q1, q2, q3⟩ := ins_cells hSw.1; have q4 := hSw.2; clear hSw)
    go_simp
    all_goals with_reducible rfl
  (try simp only [Act.put, List.setIfInBounds_toArray, List.set_cons_zero, List.set_cons_succ])
  refine wpAnyH_take (i := 5) (v := ?_) rfl (by kernel_rfl) (by kernel_rfl) (by kernel_rfl) (fun _ _ _ h => h) (Or.inl ⟨by rfl, ?_⟩) (by assumption) ?_
  rotate_left
  · intro wS hSw
    (obtain ⟨q0, q1, q2, q3⟩ := ins_cells hSw.1; have q4 := hSw.2; clear hSw)
    go_simp
    all_goals with_reducible rfl
  (try simp only [Act.put, List.setIfInBounds_toArray, List.set_cons_zero, List.set_cons_succ])
  refine wpAnyH_take (i := 6) (v := ?_) rfl (by kernel_rfl) (by kernel_rfl) (by kernel_rfl) (fun _ _ _ h => h) (Or.inl ⟨by rfl, ?_⟩) (by assumption) ?_
  rotate_left
  · intro wS hSw
    (obtain ⟨q0, q1, q2, q3⟩ := ins_cells hSw.1; have q4 := hSw.2; clear hSw)
    go_simp
    all_goals with_reducible rfl
  (try simp only [Act.put, List.setIfInBounds_toArray, List.set_cons_zero, List.set_cons_succ])
  refine wpAnyH_take (i := 7) (v := ?_) rfl (by kernel_rfl) (by kernel_rfl) (by kernel_rfl) (fun _ _ _ h => h) (Or.inl ⟨by rfl, ?_⟩) (by assumption) ?_
  rotate_left
  · intro wS hSw
    (obtain ⟨q0, q1, q2, q3⟩ := ins_cells hSw.1; have q4 := hSw.2; clear hSw)
    go_simp
    all_goals with_reducible rfl
  (try simp only [Act.put, List.setIfInBounds_toArray, List.set_cons_zero, List.set_cons_succ])
  refine held_one (i := 8) (by kernel_rfl) rfl (fun K hK => ?_)
  go_simp
  go_at_call 120
  refine (p_operand _ b qv dv mv s c jt jf k v HM2.out hv).mono ?_
  rintro e w4 ⟨rfl, rfl⟩
  have HM3 := Lib.hid (HM2.out.alloc (insO c jt jf k))
  refine hK.out _ _ ⟨World.rowIs.alloc hHeld.1 _, World.rowIs.cell HM3.out (i := 3) (by decide)⟩ (fun hHeld => ?_)
  have G3 := Lib.hid (grown_alloc G2.out (insO c jt jf k))
  clear hK K HM2 G2
  generalize W2.alloc (insO c jt jf k) = W3 at HM3 G3 hHeld ⊢
  (try simp only [Act.put, List.setIfInBounds_toArray, List.set_cons_zero, List.set_cons_succ])
  refine wpAnyH_take (i := 9) (v := ?_) rfl (by kernel_rfl) (by kernel_rfl) (by kernel_rfl) (fun _ _ _ h => h) (Or.inl ⟨by rfl, ?_⟩) (by assumption) ?_
  rotate_left
  · intro wS hSw
    (skip)
    go_simp
    all_goals with_reducible rfl
  (try simp only [Act.put, List.setIfInBounds_toArray, List.set_cons_zero, List.set_cons_succ])
  rw [beq_false_of_ne hq']
  refine held_one (i := 10) (by kernel_rfl) rfl (fun K hK => ?_)
  go_simp
  go_at_call 122
  refine (p_branch_f _ b qv dv mv s c jt jf k HM3.out hp hj).mono ?_
  rintro e w5 ⟨rfl, hm, hg⟩
  refine hK.out _ _ ⟨rowIs_grown hHeld.1 hg (fun e => hne (by injection e)), World.rowIs.cell hm (i := 3) (by decide)⟩ (fun _ => ?_)
  refine wpAnyH_done (by kernel_rfl) ?_ _
  go_wp2
  go_end0
  exact ⟨rfl, hm, grown_trans G3.out hg⟩
set_option maxHeartbeats 1000000 in
theorem p_ifAbove_t (h : PMAt w b qv dv mv s) (hv : Opnd c k s v) (hq : v.toNat < s.a.toNat) (hp : s.place ≤ 140737488351232) (hj : jt < 256) : Calls Tryz.prog 98 #[.pointer (some ⟨b, 0, none⟩), .agg #[.int .u16 c, .int .u8 (jt : Int), .int .u8 (jf : Int), .int .u32 (k.toNat : Int)]] w (OpP w b qv dv mv { s with place := s.place + jt }) := by
  have hlt := World.rowIs.lt h
  have HM1 := Lib.hid (h.alloc (insO c jt jf k))
  have HD := Lib.hid (ins_box w c jt jf k)
  have G1 := Lib.hid (grown_alloc (World.grownBy.refl w (some b)) (insO c jt jf k))
  have hq' : (v.toNat : Int) < (s.a.toNat : Int) := by omega
  clear hq
  clear h
  go_enter Tryz.func98, Tryz.ntmps98
  go_wp2
  generalize w.alloc (insO c jt jf k) = W1 at HM1 HD G1 ⊢
  generalize w.heap.size = g at HD hlt ⊢
  have hne : ¬ g = b := by omega
  refine wp_region_held_drew (S := fun w' => w'.rowIs g 60 4 (insF ⟨c, jt, jf, k⟩) ∧ w'.cell? ⟨b, 3, none⟩ = some (.int .u32 (s.a.toNat : Int))) (by kernel_rfl) ⟨HD.out, World.rowIs.cell HM1.out (i := 3) (by decide)⟩ (fun hHeld => ?_)
  have HM2 := Lib.hid HM1.out.drew
  have G2 : Hid (w.grownBy W1.drew (some b)) := Lib.hid (grown_drawn G1.out 1)
  clear HM1 HD G1
  generalize W1.drew = W2 at HM2 G2 hHeld ⊢
  refine wpAnyH_take (i := 0) (v := ?_) rfl (by kernel_rfl) (by kernel_rfl) (by kernel_rfl) (fun _ _ _ h => h) (Or.inl ⟨by rfl, ?_⟩) (by assumption) ?_
  rotate_left
  · intro wS hSw
    (obtain ⟨q0, q1, q2, q3⟩ := ins_cells hSw.1; have q4 := hSw.2; clear hSw)
    go_simp
    all_goals with_reducible rfl
  (try simp only [Act.put, List.setIfInBounds_toArray, List.set_cons_zero, List.set_cons_succ])
  refine wpAnyH_take (i := 1) (v := ?_) rfl (by kernel_rfl) (by kernel_rfl) (by kernel_rfl) (fun _ _ _ h => h) (Or.inl ⟨by rfl, ?_⟩) (by assumption) ?_
  rotate_left
  · intro wS hSw
    (obtain ⟨q0, q1, q2, q3⟩ := ins_cells hSw.1; have q4 := hSw.2; clear hSw)
    go_simp
    all_goals with_reducible rfl
  (try simp only [Act.put, List.setIfInBounds_toArray, List.set_cons_zero, List.set_cons_succ])
  refine wpAnyH_take (i := 2) (v := ?_) rfl (by kernel_rfl) (by kernel_rfl) (by kernel_rfl) (fun _ _ _ h => h) (Or.inl ⟨by rfl, ?_⟩) (by assumption) ?_
  rotate_left
  · intro wS hSw
    (obtain ⟨q0, q1, q2, q3⟩ := ins_cells hSw.1; have q4 := hSw.2; clear hSw)
    go_simp
    all_goals with_reducible rfl
  (try simp only [Act.put, List.setIfInBounds_toArray, List.set_cons_zero, List.set_cons_succ])
  refine wpAnyH_take (i := 3) (v := ?_) rfl (by kernel_rfl) (by kernel_rfl) (by kernel_rfl) (fun _ _ _ h => h) (Or.inl ⟨by rfl, ?_⟩) (by assumption) ?_
  rotate_left
  · intro wS hSw
    (obtain ⟨q0, q1, q2, q3⟩ := ins_cells hSw.1; have q4 := hSw.2; clear hSw)
    go_simp
    all_goals with_reducible rfl
  (try simp only [Act.put, List.setIfInBounds_toArray, List.set_cons_zero, List.set_cons_succ])
  refine wpAnyH_take (i := 4) (v := ?_) rfl (by kernel_rfl) (by kernel_rfl) (by kernel_rfl) (fun _ _ _ h => h) (Or.inl ⟨by rfl, ?_⟩) (by assumption) ?_
  rotate_left
  · intro wS hSw
    (obtain ⟨q0, q1, q2, q3⟩ := ins_cells hSw.1; have q4 := hSw.2; clear hSw)
    go_simp
    all_goals with_reducible rfl
  (try simp only [Act.put, List.setIfInBounds_toArray, List.set_cons_zero, List.set_cons_succ])
  refine wpAnyH_take (i := 5) (v := ?_) rfl (by kernel_rfl) (by kernel_rfl) (by kernel_rfl) (fun _ _ _ h => h) (Or.inl ⟨by rfl, ?_⟩) (by assumption) ?_
  rotate_left
  · intro wS hSw
    (obtain ⟨q0, q1, q2, q3⟩ := ins_cells hSw.1; have q4 := hSw.2; clear hSw)
    go_simp
    all_goals with_reducible rfl
  (try simp only [Act.put, List.setIfInBounds_toArray, List.set_cons_zero, List.set_cons_succ])
  refine wpAnyH_take (i := 6) (v := ?_) rfl (by kernel_rfl) (by kernel_rfl) (by kernel_rfl) (fun _ _ _ h => h) (Or.inl ⟨by rfl, ?_⟩) (by assumption) ?_
  rotate_left
  · intro wS hSw
    (obtain ⟨q0, q1, q2, q3⟩ := ins_cells hSw.1; have q4 := hSw.2; clear hSw)
    go_simp
    all_goals with_reducible rfl
  (try simp only [Act.put, List.setIfInBounds_toArray, List.set_cons_zero, List.set_cons_succ])
  refine wpAnyH_take (i := 7) (v := ?_) rfl (by kernel_rfl) (by kernel_rfl) (by kernel_rfl) (fun _ _ _ h => h) (Or.inl ⟨by rfl, ?_⟩) (by assumption) ?_
  rotate_left
  · intro wS hSw
    (obtain ⟨q0, q1, q2, q3⟩ := ins_cells hSw.1; have q4 := hSw.2; clear hSw)
    go_simp
    all_goals with_reducible rfl
  (try simp only [Act.put, List.setIfInBounds_toArray, List.set_cons_zero, List.set_cons_succ])
  refine held_one (i := 8) (by kernel_rfl) rfl (fun K hK => ?_)
  go_simp
  go_at_call 120
  refine (p_operand _ b qv dv mv s c jt jf k v HM2.out hv).mono ?_
  rintro e w4 ⟨rfl, rfl⟩
  have HM3 := Lib.hid (HM2.out.alloc (insO c jt jf k))
  refine hK.out _ _ ⟨World.rowIs.alloc hHeld.1 _, World.rowIs.cell HM3.out (i := 3) (by decide)⟩ (fun hHeld => ?_)
  have G3 := Lib.hid (grown_alloc G2.out (insO c jt jf k))
  clear hK K HM2 G2
  generalize W2.alloc (insO c jt jf k) = W3 at HM3 G3 hHeld ⊢
  (try simp only [Act.put, List.setIfInBounds_toArray, List.set_cons_zero, List.set_cons_succ])
  refine wpAnyH_take (i := 9) (v := ?_) rfl (by kernel_rfl) (by kernel_rfl) (by kernel_rfl) (fun _ _ _ h => h) (Or.inl ⟨by rfl, ?_⟩) (by assumption) ?_
  rotate_left
  · intro wS hSw
    (skip)
    go_simp
    all_goals with_reducible rfl
  (try simp only [Act.put, List.setIfInBounds_toArray, List.set_cons_zero, List.set_cons_succ])
  refine held_one (i := 10) (by kernel_rfl) rfl (fun K hK => ?_)
  go_simp
  go_at_call 122
  refine (p_branch_t _ b qv dv mv s c jt jf k HM3.out hp hj).mono ?_
  rintro e w5 ⟨rfl, hm, hg⟩
  refine hK.out _ _ ⟨rowIs_grown hHeld.1 hg (fun e => hne (by injection e)), World.rowIs.cell hm (i := 3) (by decide)⟩ (fun _ => ?_)
  refine wpAnyH_done (by kernel_rfl) ?_ _
  go_wp2
  go_end0
  exact ⟨rfl, hm, grown_trans G3.out hg⟩
set_option maxHeartbeats 1000000 in
theorem p_ifAbove_f (h : PMAt w b qv dv mv s) (hv : Opnd c k s v) (hq : ¬ v.toNat < s.a.toNat) (hp : s.place ≤ 140737488351232) (hj : jf < 256) : Calls Tryz.prog 98 #[.pointer (some ⟨b, 0, none⟩), .agg #[.int .u16 c, .int .u8 (jt : Int), .int .u8 (jf : Int), .int .u32 (k.toNat : Int)]] w (OpP w b qv dv mv { s with place := s.place + jf }) := by
  have hlt := World.rowIs.lt h
  have HM1 := Lib.hid (h.alloc (insO c jt jf k))
  have HD := Lib.hid (ins_box w c jt jf k)
  have G1 := Lib.hid (grown_alloc (World.grownBy.refl w (some b)) (insO c jt jf k))
  have hq' : ¬ (v.toNat : Int) < (s.a.toNat : Int) := by omega
  clear hq
  clear h
  go_enter Tryz.func98, Tryz.ntmps98
  go_wp2
  generalize w.alloc (insO c jt jf k) = W1 at HM1 HD G1 ⊢
  generalize w.heap.size = g at HD hlt ⊢
  have hne : ¬ g = b := by omega
  refine wp_region_held_drew (S := fun w' => w'.rowIs g 60 4 (insF ⟨c, jt, jf, k⟩) ∧ w'.cell? ⟨b, 3, none⟩ = some (.int .u32 (s.a.toNat : Int))) (by kernel_rfl) ⟨HD.out, World.rowIs.cell HM1.out (i := 3) (by decide)⟩ (fun hHeld => ?_)
  have HM2 := Lib.hid HM1.out.drew
  have G2 : Hid (w.grownBy W1.drew (some b)) := Lib.hid (grown_drawn G1.out 1)
  clear HM1 HD G1
  generalize W1.drew = W2 at HM2 G2 hHeld ⊢
  refine wpAnyH_take (i := 0) (v := ?_) rfl (by kernel_rfl) (by kernel_rfl) (by kernel_rfl) (fun _ _ _ h => h) (Or.inl ⟨by rfl, ?_⟩) (by assumption) ?_
  rotate_left
  · intro wS hSw
    (obtain ⟨q0, q1, q2, q3⟩ := ins_cells hSw.1; have q4 := hSw.2; clear hSw)
    go_simp
    all_goals with_reducible rfl
  (try simp only [Act.put, List.setIfInBounds_toArray, List.set_cons_zero, List.set_cons_succ])
  refine wpAnyH_take (i := 1) (v := ?_) rfl (by kernel_rfl) (by kernel_rfl) (by kernel_rfl) (fun _ _ _ h => h) (Or.inl ⟨by rfl, ?_⟩) (by assumption) ?_
  rotate_left
  · intro wS hSw
    (obtain ⟨q0, q1, q2, q3⟩ := ins_cells hSw.1; have q4 := hSw.2; clear hSw)
    go_simp
    all_goals with_reducible rfl
  (try simp only [Act.put, List.setIfInBounds_toArray, List.set_cons_zero, List.set_cons_succ])
  refine wpAnyH_take (i := 2) (v := ?_) rfl (by kernel_rfl) (by kernel_rfl) (by kernel_rfl) (fun _ _ _ h => h) (Or.inl ⟨by rfl, ?_⟩) (by assumption) ?_
  rotate_left
  · intro wS hSw
    (obtain ⟨q0, q1, q2, q3⟩ := ins_cells hSw.1; have q4 := hSw.2; clear hSw)
    go_simp
    all_goals with_reducible rfl
  (try simp only [Act.put, List.setIfInBounds_toArray, List.set_cons_zero, List.set_cons_succ])
  refine wpAnyH_take (i := 3) (v := ?_) rfl (by kernel_rfl) (by kernel_rfl) (by kernel_rfl) (fun _ _ _ h => h) (Or.inl ⟨by rfl, ?_⟩) (by assumption) ?_
  rotate_left
  · intro wS hSw
    (obtain ⟨q0, q1, q2, q3⟩ := ins_cells hSw.1; have q4 := hSw.2; clear hSw)
    go_simp
    all_goals with_reducible rfl
  (try simp only [Act.put, List.setIfInBounds_toArray, List.set_cons_zero, List.set_cons_succ])
  refine wpAnyH_take (i := 4) (v := ?_) rfl (by kernel_rfl) (by kernel_rfl) (by kernel_rfl) (fun _ _ _ h => h) (Or.inl ⟨by rfl, ?_⟩) (by assumption) ?_
  rotate_left
  · intro wS hSw
    (obtain ⟨q0, q1, q2, q3⟩ := ins_cells hSw.1; have q4 := hSw.2; clear hSw)
    go_simp
    all_goals with_reducible rfl
  (try simp only [Act.put, List.setIfInBounds_toArray, List.set_cons_zero, List.set_cons_succ])
  refine wpAnyH_take (i := 5) (v := ?_) rfl (by kernel_rfl) (by kernel_rfl) (by kernel_rfl) (fun _ _ _ h => h) (Or.inl ⟨by rfl, ?_⟩) (by assumption) ?_
  rotate_left
  · intro wS hSw
    (obtain ⟨q0, q1, q2, q3⟩ := ins_cells hSw.1; have q4 := hSw.2; clear hSw)
    go_simp
    all_goals with_reducible rfl
  (try simp only [Act.put, List.setIfInBounds_toArray, List.set_cons_zero, List.set_cons_succ])
  refine wpAnyH_take (i := 6) (v := ?_) rfl (by kernel_rfl) (by kernel_rfl) (by kernel_rfl) (fun _ _ _ h => h) (Or.inl ⟨by rfl, ?_⟩) (by assumption) ?_
  rotate_left
  · intro wS hSw
    (obtain ⟨q0, q1, q2, q3⟩ := ins_cells hSw.1; have q4 := hSw.2; clear hSw)
    go_simp
    all_goals with_reducible rfl
  (try simp only [Act.put, List.setIfInBounds_toArray, List.set_cons_zero, List.set_cons_succ])
  refine wpAnyH_take (i := 7) (v := ?_) rfl (by kernel_rfl) (by kernel_rfl) (by kernel_rfl) (fun _ _ _ h => h) (Or.inl ⟨by rfl, ?_⟩) (by assumption) ?_
  rotate_left
  · intro wS hSw
    (obtain ⟨q0, q1, q2, q3⟩ := ins_cells hSw.1; have q4 := hSw.2; clear hSw)
    go_simp
    all_goals with_reducible rfl
  (try simp only [Act.put, List.setIfInBounds_toArray, List.set_cons_zero, List.set_cons_succ])
  refine held_one (i := 8) (by kernel_rfl) rfl (fun K hK => ?_)
  go_simp
  go_at_call 120
  refine (p_operand _ b qv dv mv s c jt jf k v HM2.out hv).mono ?_
  rintro e w4 ⟨rfl, rfl⟩
  have HM3 := Lib.hid (HM2.out.alloc (insO c jt jf k))
  refine hK.out _ _ ⟨World.rowIs.alloc hHeld.1 _, World.rowIs.cell HM3.out (i := 3) (by decide)⟩ (fun hHeld => ?_)
  have G3 := Lib.hid (grown_alloc G2.out (insO c jt jf k))
  clear hK K HM2 G2
  generalize W2.alloc (insO c jt jf k) = W3 at HM3 G3 hHeld ⊢
  (try simp only [Act.put, List.setIfInBounds_toArray, List.set_cons_zero, List.set_cons_succ])
  refine wpAnyH_take (i := 9) (v := ?_) rfl (by kernel_rfl) (by kernel_rfl) (by kernel_rfl) (fun _ _ _ h => h) (Or.inl ⟨by rfl, ?_⟩) (by assumption) ?_
  rotate_left
  · intro wS hSw
    (skip)
    go_simp
    all_goals with_reducible rfl
  (try simp only [Act.put, List.setIfInBounds_toArray, List.set_cons_zero, List.set_cons_succ])
  rw [show decide (v.toNat < s.a.toNat) = false from decide_eq_false (by omega)]
  refine held_one (i := 10) (by kernel_rfl) rfl (fun K hK => ?_)
  go_simp
  go_at_call 122
  refine (p_branch_f _ b qv dv mv s c jt jf k HM3.out hp hj).mono ?_
  rintro e w5 ⟨rfl, hm, hg⟩
  refine hK.out _ _ ⟨rowIs_grown hHeld.1 hg (fun e => hne (by injection e)), World.rowIs.cell hm (i := 3) (by decide)⟩ (fun _ => ?_)
  refine wpAnyH_done (by kernel_rfl) ?_ _
  go_wp2
  go_end0
  exact ⟨rfl, hm, grown_trans G3.out hg⟩
set_option maxHeartbeats 1000000 in
theorem p_ifNotBelow_t (h : PMAt w b qv dv mv s) (hv : Opnd c k s v) (hq : v.toNat ≤ s.a.toNat) (hp : s.place ≤ 140737488351232) (hj : jt < 256) : Calls Tryz.prog 99 #[.pointer (some ⟨b, 0, none⟩), .agg #[.int .u16 c, .int .u8 (jt : Int), .int .u8 (jf : Int), .int .u32 (k.toNat : Int)]] w (OpP w b qv dv mv { s with place := s.place + jt }) := by
  have hlt := World.rowIs.lt h
  have HM1 := Lib.hid (h.alloc (insO c jt jf k))
  have HD := Lib.hid (ins_box w c jt jf k)
  have G1 := Lib.hid (grown_alloc (World.grownBy.refl w (some b)) (insO c jt jf k))
  have hq' : (v.toNat : Int) ≤ (s.a.toNat : Int) := by omega
  clear hq
  clear h
  go_enter Tryz.func99, Tryz.ntmps99
  go_wp2
  generalize w.alloc (insO c jt jf k) = W1 at HM1 HD G1 ⊢
  generalize w.heap.size = g at HD hlt ⊢
  have hne : ¬ g = b := by omega
  refine wp_region_held_drew (S := fun w' => w'.rowIs g 60 4 (insF ⟨c, jt, jf, k⟩) ∧ w'.cell? ⟨b, 3, none⟩ = some (.int .u32 (s.a.toNat : Int))) (by kernel_rfl) ⟨HD.out, World.rowIs.cell HM1.out (i := 3) (by decide)⟩ (fun hHeld => ?_)
  have HM2 := Lib.hid HM1.out.drew
  have G2 : Hid (w.grownBy W1.drew (some b)) := Lib.hid (grown_drawn G1.out 1)
  clear HM1 HD G1
  generalize W1.drew = W2 at HM2 G2 hHeld ⊢
  refine wpAnyH_take (i := 0) (v := ?_) rfl (by kernel_rfl) (by kernel_rfl) (by kernel_rfl) (fun _ _ _ h => h) (Or.inl ⟨by rfl, ?_⟩) (by assumption) ?_
  rotate_left
  · intro wS hSw
    (obtain ⟨q0, q1, q2, q3⟩ := ins_cells hSw.1; have q4 := hSw.2; clear hSw)
    go_simp
    all_goals with_reducible rfl
  (try simp only [Act.put, List.setIfInBounds_toArray, List.set_cons_zero, List.set_cons_succ])
  refine wpAnyH_take (i := 1) (v := ?_) rfl (by kernel_rfl) (by kernel_rfl) (by kernel_rfl) (fun _ _ _ h => h) (Or.inl ⟨by rfl, ?_⟩) (by assumption) ?_
  rotate_left
  · intro wS hSw
    (obtain ⟨q0, q1, q2, q3⟩ := ins_cells hSw.1; have q4 := hSw.2; clear hSw)
    go_simp
    all_goals with_reducible rfl
  (try simp only [Act.put, List.setIfInBounds_toArray, List.set_cons_zero, List.set_cons_succ])
  refine wpAnyH_take (i := 2) (v := ?_) rfl (by kernel_rfl) (by kernel_rfl) (by kernel_rfl) (fun _ _ _ h => h) (Or.inl ⟨by rfl, ?_⟩) (by assumption) ?_
  rotate_left
  · intro wS hSw
    (obtain ⟨q0, q1, q2, q3⟩ := ins_cells hSw.1; have q4 := hSw.2; clear hSw)
    go_simp
    all_goals with_reducible rfl
  (try simp only [Act.put, List.setIfInBounds_toArray, List.set_cons_zero, List.set_cons_succ])
  refine wpAnyH_take (i := 3) (v := ?_) rfl (by kernel_rfl) (by kernel_rfl) (by kernel_rfl) (fun _ _ _ h => h) (Or.inl ⟨by rfl, ?_⟩) (by assumption) ?_
  rotate_left
  · intro wS hSw
    (obtain ⟨q0, q1, q2, q3⟩ := ins_cells hSw.1; have q4 := hSw.2; clear hSw)
    go_simp
    all_goals with_reducible rfl
  (try simp only [Act.put, List.setIfInBounds_toArray, List.set_cons_zero, List.set_cons_succ])
  refine wpAnyH_take (i := 4) (v := ?_) rfl (by kernel_rfl) (by kernel_rfl) (by kernel_rfl) (fun _ _ _ h => h) (Or.inl ⟨by rfl, ?_⟩) (by assumption) ?_
  rotate_left
  · intro wS hSw
    (obtain ⟨q0, q1, q2, q3⟩ := ins_cells hSw.1; have q4 := hSw.2; clear hSw)
    go_simp
    all_goals with_reducible rfl
  (try simp only [Act.put, List.setIfInBounds_toArray, List.set_cons_zero, List.set_cons_succ])
  refine wpAnyH_take (i := 5) (v := ?_) rfl (by kernel_rfl) (by kernel_rfl) (by kernel_rfl) (fun _ _ _ h => h) (Or.inl ⟨by rfl, ?_⟩) (by assumption) ?_
  rotate_left
  · intro wS hSw
    (obtain ⟨q0, q1, q2, q3⟩ := ins_cells hSw.1; have q4 := hSw.2; clear hSw)
    go_simp
    all_goals with_reducible rfl
  (try simp only [Act.put, List.setIfInBounds_toArray, List.set_cons_zero, List.set_cons_succ])
  refine wpAnyH_take (i := 6) (v := ?_) rfl (by kernel_rfl) (by kernel_rfl) (by kernel_rfl) (fun _ _ _ h => h) (Or.inl ⟨by rfl, ?_⟩) (by assumption) ?_
  rotate_left
  · intro wS hSw
    (obtain ⟨q0, q1, q2, q3⟩ := ins_cells hSw.1; have q4 := hSw.2; clear hSw)
    go_simp
    all_goals with_reducible rfl
  (try simp only [Act.put, List.setIfInBounds_toArray, List.set_cons_zero, List.set_cons_succ])
  refine wpAnyH_take (i := 7) (v := ?_) rfl (by kernel_rfl) (by kernel_rfl) (by kernel_rfl) (fun _ _ _ h => h) (Or.inl ⟨by rfl, ?_⟩) (by assumption) ?_
  rotate_left
  · intro wS hSw
    (obtain ⟨q0, q1, q2, q3⟩ := ins_cells hSw.1; have q4 := hSw.2; clear hSw)
    go_simp
    all_goals with_reducible rfl
  (try simp only [Act.put, List.setIfInBounds_toArray, List.set_cons_zero, List.set_cons_succ])
  refine held_one (i := 8) (by kernel_rfl) rfl (fun K hK => ?_)
  go_simp
  go_at_call 120
  refine (p_operand _ b qv dv mv s c jt jf k v HM2.out hv).mono ?_
  rintro e w4 ⟨rfl, rfl⟩
  have HM3 := Lib.hid (HM2.out.alloc (insO c jt jf k))
  refine hK.out _ _ ⟨World.rowIs.alloc hHeld.1 _, World.rowIs.cell HM3.out (i := 3) (by decide)⟩ (fun hHeld => ?_)
  have G3 := Lib.hid (grown_alloc G2.out (insO c jt jf k))
  clear hK K HM2 G2
  generalize W2.alloc (insO c jt jf k) = W3 at HM3 G3 hHeld ⊢
  (try simp only [Act.put, List.setIfInBounds_toArray, List.set_cons_zero, List.set_cons_succ])
  refine wpAnyH_take (i := 9) (v := ?_) rfl (by kernel_rfl) (by kernel_rfl) (by kernel_rfl) (fun _ _ _ h => h) (Or.inl ⟨by rfl, ?_⟩) (by assumption) ?_
  rotate_left
  · intro wS hSw
    (skip)
    go_simp
    all_goals with_reducible rfl
  (try simp only [Act.put, List.setIfInBounds_toArray, List.set_cons_zero, List.set_cons_succ])
  refine held_one (i := 10) (by kernel_rfl) rfl (fun K hK => ?_)
  go_simp
  go_at_call 122
  refine (p_branch_t _ b qv dv mv s c jt jf k HM3.out hp hj).mono ?_
  rintro e w5 ⟨rfl, hm, hg⟩
  refine hK.out _ _ ⟨rowIs_grown hHeld.1 hg (fun e => hne (by injection e)), World.rowIs.cell hm (i := 3) (by decide)⟩ (fun _ => ?_)
  refine wpAnyH_done (by kernel_rfl) ?_ _
  go_wp2
  go_end0
  exact ⟨rfl, hm, grown_trans G3.out hg⟩
set_option maxHeartbeats 1000000 in
theorem p_ifNotBelow_f (h : PMAt w b qv dv mv s) (hv : Opnd c k s v) (hq : ¬ v.toNat ≤ s.a.toNat) (hp : s.place ≤ 140737488351232) (hj : jf < 256) : Calls Tryz.prog 99 #[.pointer (some ⟨b, 0, none⟩), .agg #[.int .u16 c, .int .u8 (jt : Int), .int .u8 (jf : Int), .int .u32 (k.toNat : Int)]] w (OpP w b qv dv mv { s with place := s.place + jf }) := by
  have hlt := World.rowIs.lt h
  have HM1 := Lib.hid (h.alloc (insO c jt jf k))
  have HD := Lib.hid (ins_box w c jt jf k)
  have G1 := Lib.hid (grown_alloc (World.grownBy.refl w (some b)) (insO c jt jf k))
  have hq' : ¬ (v.toNat : Int) ≤ (s.a.toNat : Int) := by omega
  clear hq
  clear h
  go_enter Tryz.func99, Tryz.ntmps99
  go_wp2
  generalize w.alloc (insO c jt jf k) = W1 at HM1 HD G1 ⊢
  generalize w.heap.size = g at HD hlt ⊢
  have hne : ¬ g = b := by omega
  refine wp_region_held_drew (S := fun w' => w'.rowIs g 60 4 (insF ⟨c, jt, jf, k⟩) ∧ w'.cell? ⟨b, 3, none⟩ = some (.int .u32 (s.a.toNat : Int))) (by kernel_rfl) ⟨HD.out, World.rowIs.cell HM1.out (i := 3) (by decide)⟩ (fun hHeld => ?_)
  have HM2 := Lib.hid HM1.out.drew
  have G2 : Hid (w.grownBy W1.drew (some b)) := Lib.hid (grown_drawn G1.out 1)
  clear HM1 HD G1
  generalize W1.drew = W2 at HM2 G2 hHeld ⊢
  refine wpAnyH_take (i := 0) (v := ?_) rfl (by kernel_rfl) (by kernel_rfl) (by kernel_rfl) (fun _ _ _ h => h) (Or.inl ⟨by rfl, ?_⟩) (by assumption) ?_
  rotate_left
  · intro wS hSw
    (obtain ⟨q0, q1, q2, q3⟩ := ins_cells hSw.1; have q4 := hSw.2; clear hSw)
    go_simp
    all_goals with_reducible rfl
  (try simp only [Act.put, List.setIfInBounds_toArray, List.set_cons_zero, List.set_cons_succ])
  refine wpAnyH_take (i := 1) (v := ?_) rfl (by kernel_rfl) (by kernel_rfl) (by kernel_rfl) (fun _ _ _ h => h) (Or.inl ⟨by rfl, ?_⟩) (by assumption) ?_
  rotate_left
  · intro wS hSw
    (obtain ⟨q0, q1, q2, q3⟩ := ins_cells hSw.1; have q4 := hSw.2; clear hSw)
    go_simp
    all_goals with_reducible rfl
  (try simp only [Act.put, List.setIfInBounds_toArray, List.set_cons_zero, List.set_cons_succ])
  refine wpAnyH_take (i := 2) (v := ?_) rfl (by kernel_rfl) (by kernel_rfl) (by kernel_rfl) (fun _ _ _ h => h) (Or.inl ⟨by rfl, ?_⟩) (by assumption) ?_
  rotate_left
  · intro wS hSw
    (obtain ⟨q0, q1, q2, q3⟩ := ins_cells hSw.1; have q4 := hSw.2; clear hSw)
    go_simp
    all_goals with_reducible rfl
  (try simp only [Act.put, List.setIfInBounds_toArray, List.set_cons_zero, List.set_cons_succ])
  refine wpAnyH_take (i := 3) (v := ?_) rfl (by kernel_rfl) (by kernel_rfl) (by kernel_rfl) (fun _ _ _ h => h) (Or.inl ⟨by rfl, ?_⟩) (by assumption) ?_
  rotate_left
  · intro wS hSw
    (obtain ⟨q0, q1, q2, q3⟩ := ins_cells hSw.1; have q4 := hSw.2; clear hSw)
    go_simp
    all_goals with_reducible rfl
  (try simp only [Act.put, List.setIfInBounds_toArray, List.set_cons_zero, List.set_cons_succ])
  refine wpAnyH_take (i := 4) (v := ?_) rfl (by kernel_rfl) (by kernel_rfl) (by kernel_rfl) (fun _ _ _ h => h) (Or.inl ⟨by rfl, ?_⟩) (by assumption) ?_
  rotate_left
  · intro wS hSw
    (obtain ⟨q0, q1, q2, q3⟩ := ins_cells hSw.1; have q4 := hSw.2; clear hSw)
    go_simp
    all_goals with_reducible rfl
  (try simp only [Act.put, List.setIfInBounds_toArray, List.set_cons_zero, List.set_cons_succ])
  refine wpAnyH_take (i := 5) (v := ?_) rfl (by kernel_rfl) (by kernel_rfl) (by kernel_rfl) (fun _ _ _ h => h) (Or.inl ⟨by rfl, ?_⟩) (by assumption) ?_
  rotate_left
  · intro wS hSw
    (obtain ⟨q0, q1, q2, q3⟩ := ins_cells hSw.1; have q4 := hSw.2; clear hSw)
    go_simp
    all_goals with_reducible rfl
  (try simp only [Act.put, List.setIfInBounds_toArray, List.set_cons_zero, List.set_cons_succ])
  refine wpAnyH_take (i := 6) (v := ?_) rfl (by kernel_rfl) (by kernel_rfl) (by kernel_rfl) (fun _ _ _ h => h) (Or.inl ⟨by rfl, ?_⟩) (by assumption) ?_
  rotate_left
  · intro wS hSw
    (obtain ⟨q0, q1, q2, q3⟩ := ins_cells hSw.1; have q4 := hSw.2; clear hSw)
    go_simp
    all_goals with_reducible rfl
  (try simp only [Act.put, List.setIfInBounds_toArray, List.set_cons_zero, List.set_cons_succ])
  refine wpAnyH_take (i := 7) (v := ?_) rfl (by kernel_rfl) (by kernel_rfl) (by kernel_rfl) (fun _ _ _ h => h) (Or.inl ⟨by rfl, ?_⟩) (by assumption) ?_
  rotate_left
  · intro wS hSw
    (obtain ⟨q0, q1, q2, q3⟩ := ins_cells hSw.1; have q4 := hSw.2; clear hSw)
    go_simp
    all_goals with_reducible rfl
  (try simp only [Act.put, List.setIfInBounds_toArray, List.set_cons_zero, List.set_cons_succ])
  refine held_one (i := 8) (by kernel_rfl) rfl (fun K hK => ?_)
  go_simp
  go_at_call 120
  refine (p_operand _ b qv dv mv s c jt jf k v HM2.out hv).mono ?_
  rintro e w4 ⟨rfl, rfl⟩
  have HM3 := Lib.hid (HM2.out.alloc (insO c jt jf k))
  refine hK.out _ _ ⟨World.rowIs.alloc hHeld.1 _, World.rowIs.cell HM3.out (i := 3) (by decide)⟩ (fun hHeld => ?_)
  have G3 := Lib.hid (grown_alloc G2.out (insO c jt jf k))
  clear hK K HM2 G2
  generalize W2.alloc (insO c jt jf k) = W3 at HM3 G3 hHeld ⊢
  (try simp only [Act.put, List.setIfInBounds_toArray, List.set_cons_zero, List.set_cons_succ])
  refine wpAnyH_take (i := 9) (v := ?_) rfl (by kernel_rfl) (by kernel_rfl) (by kernel_rfl) (fun _ _ _ h => h) (Or.inl ⟨by rfl, ?_⟩) (by assumption) ?_
  rotate_left
  · intro wS hSw
    (skip)
    go_simp
    all_goals with_reducible rfl
  (try simp only [Act.put, List.setIfInBounds_toArray, List.set_cons_zero, List.set_cons_succ])
  rw [show decide (v.toNat ≤ s.a.toNat) = false from decide_eq_false (by omega)]
  refine held_one (i := 10) (by kernel_rfl) rfl (fun K hK => ?_)
  go_simp
  go_at_call 122
  refine (p_branch_f _ b qv dv mv s c jt jf k HM3.out hp hj).mono ?_
  rintro e w5 ⟨rfl, hm, hg⟩
  refine hK.out _ _ ⟨rowIs_grown hHeld.1 hg (fun e => hne (by injection e)), World.rowIs.cell hm (i := 3) (by decide)⟩ (fun _ => ?_)
  refine wpAnyH_done (by kernel_rfl) ?_ _
  go_wp2
  go_end0
  exact ⟨rfl, hm, grown_trans G3.out hg⟩
set_option maxHeartbeats 1000000 in
theorem p_ifCommon_t (h : PMAt w b qv dv mv s) (hv : Opnd c k s v) (hq : ¬ s.a &&& v = 0#32) (hp : s.place ≤ 140737488351232) (hj : jt < 256) : Calls Tryz.prog 100 #[.pointer (some ⟨b, 0, none⟩), .agg #[.int .u16 c, .int .u8 (jt : Int), .int .u8 (jf : Int), .int .u32 (k.toNat : Int)]] w (OpP w b qv dv mv { s with place := s.place + jt }) := by
  have hlt := World.rowIs.lt h
  have HM1 := Lib.hid (h.alloc (insO c jt jf k))
  have HD := Lib.hid (ins_box w c jt jf k)
  have G1 := Lib.hid (grown_alloc (World.grownBy.refl w (some b)) (insO c jt jf k))
  have hq' : ¬ ((s.a &&& v).toNat : Int) = 0 := fun g => hq (BitVec.eq_of_toNat_eq (by simpa using g))
  have hq2 := and32 s.a v
  clear hq
  clear h
  go_enter Tryz.func100, Tryz.ntmps100
  go_wp2
  generalize w.alloc (insO c jt jf k) = W1 at HM1 HD G1 ⊢
  generalize w.heap.size = g at HD hlt ⊢
  have hne : ¬ g = b := by omega
  refine wp_region_held_drew (S := fun w' => w'.rowIs g 60 4 (insF ⟨c, jt, jf, k⟩) ∧ w'.cell? ⟨b, 3, none⟩ = some (.int .u32 (s.a.toNat : Int))) (by kernel_rfl) ⟨HD.out, World.rowIs.cell HM1.out (i := 3) (by decide)⟩ (fun hHeld => ?_)
  have HM2 := Lib.hid HM1.out.drew
  have G2 : Hid (w.grownBy W1.drew (some b)) := Lib.hid (grown_drawn G1.out 1)
  clear HM1 HD G1
  generalize W1.drew = W2 at HM2 G2 hHeld ⊢
  refine wpAnyH_take (i := 0) (v := ?_) rfl (by kernel_rfl) (by kernel_rfl) (by kernel_rfl) (fun _ _ _ h => h) (Or.inl ⟨by rfl, ?_⟩) (by assumption) ?_
  rotate_left
  · intro wS hSw
    (obtain ⟨q0, q1, q2, q3⟩ := ins_cells hSw.1; have q4 := hSw.2; clear hSw)
    go_simp
    all_goals with_reducible rfl
  (try simp only [Act.put, List.setIfInBounds_toArray, List.set_cons_zero, List.set_cons_succ])
  refine wpAnyH_take (i := 1) (v := ?_) rfl (by kernel_rfl) (by kernel_rfl) (by kernel_rfl) (fun _ _ _ h => h) (Or.inl ⟨by rfl, ?_⟩) (by assumption) ?_
  rotate_left
  · intro wS hSw
    (obtain ⟨q0, q1, q2, q3⟩ := ins_cells hSw.1; have q4 := hSw.2; clear hSw)
    go_simp
    all_goals with_reducible rfl
  (try simp only [Act.put, List.setIfInBounds_toArray, List.set_cons_zero, List.set_cons_succ])
  refine wpAnyH_take (i := 2) (v := ?_) rfl (by kernel_rfl) (by kernel_rfl) (by kernel_rfl) (fun _ _ _ h => h) (Or.inl ⟨by rfl, ?_⟩) (by assumption) ?_
  rotate_left
  · intro wS hSw
    (obtain ⟨q0, q1, q2, q3⟩ := ins_cells hSw.1; have q4 := hSw.2; clear hSw)
    go_simp
    all_goals with_reducible rfl
  (try simp only [Act.put, List.setIfInBounds_toArray, List.set_cons_zero, List.set_cons_succ])
  refine wpAnyH_take (i := 3) (v := ?_) rfl (by kernel_rfl) (by kernel_rfl) (by kernel_rfl) (fun _ _ _ h => h) (Or.inl ⟨by rfl, ?_⟩) (by assumption) ?_
  rotate_left
  · intro wS hSw
    (obtain ⟨q0, q1, q2, q3⟩ := ins_cells hSw.1; have q4 := hSw.2; clear hSw)
    go_simp
    all_goals with_reducible rfl
  (try simp only [Act.put, List.setIfInBounds_toArray, List.set_cons_zero, List.set_cons_succ])
  refine wpAnyH_take (i := 4) (v := ?_) rfl (by kernel_rfl) (by kernel_rfl) (by kernel_rfl) (fun _ _ _ h => h) (Or.inl ⟨by rfl, ?_⟩) (by assumption) ?_
  rotate_left
  · intro wS hSw
    (obtain ⟨q0, q1, q2, q3⟩ := ins_cells hSw.1; have q4 := hSw.2; clear hSw)
    go_simp
    all_goals with_reducible rfl
  (try simp only [Act.put, List.setIfInBounds_toArray, List.set_cons_zero, List.set_cons_succ])
  refine wpAnyH_take (i := 5) (v := ?_) rfl (by kernel_rfl) (by kernel_rfl) (by kernel_rfl) (fun _ _ _ h => h) (Or.inl ⟨by rfl, ?_⟩) (by assumption) ?_
  rotate_left
  · intro wS hSw
    (obtain ⟨q0, q1, q2, q3⟩ := ins_cells hSw.1; have q4 := hSw.2; clear hSw)
    go_simp
    all_goals with_reducible rfl
  (try simp only [Act.put, List.setIfInBounds_toArray, List.set_cons_zero, List.set_cons_succ])
  refine wpAnyH_take (i := 6) (v := ?_) rfl (by kernel_rfl) (by kernel_rfl) (by kernel_rfl) (fun _ _ _ h => h) (Or.inl ⟨by rfl, ?_⟩) (by assumption) ?_
  rotate_left
  · intro wS hSw
    (obtain ⟨q0, q1, q2, q3⟩ := ins_cells hSw.1; have q4 := hSw.2; clear hSw)
    go_simp
    all_goals with_reducible rfl
  (try simp only [Act.put, List.setIfInBounds_toArray, List.set_cons_zero, List.set_cons_succ])
  refine wpAnyH_take (i := 7) (v := ?_) rfl (by kernel_rfl) (by kernel_rfl) (by kernel_rfl) (fun _ _ _ h => h) (Or.inl ⟨by rfl, ?_⟩) (by assumption) ?_
  rotate_left
  · intro wS hSw
    (obtain ⟨q0, q1, q2, q3⟩ := ins_cells hSw.1; have q4 := hSw.2; clear hSw)
    go_simp
    all_goals with_reducible rfl
  (try simp only [Act.put, List.setIfInBounds_toArray, List.set_cons_zero, List.set_cons_succ])
  refine held_one (i := 8) (by kernel_rfl) rfl (fun K hK => ?_)
  go_simp
  go_at_call 120
  refine (p_operand _ b qv dv mv s c jt jf k v HM2.out hv).mono ?_
  rintro e w4 ⟨rfl, rfl⟩
  have HM3 := Lib.hid (HM2.out.alloc (insO c jt jf k))
  refine hK.out _ _ ⟨World.rowIs.alloc hHeld.1 _, World.rowIs.cell HM3.out (i := 3) (by decide)⟩ (fun hHeld => ?_)
  have G3 := Lib.hid (grown_alloc G2.out (insO c jt jf k))
  clear hK K HM2 G2
  generalize W2.alloc (insO c jt jf k) = W3 at HM3 G3 hHeld ⊢
  (try simp only [Act.put, List.setIfInBounds_toArray, List.set_cons_zero, List.set_cons_succ])
  refine wpAnyH_take (i := 9) (v := ?_) rfl (by kernel_rfl) (by kernel_rfl) (by kernel_rfl) (fun _ _ _ h => h) (Or.inl ⟨by rfl, ?_⟩) (by assumption) ?_
  rotate_left
  · intro wS hSw
    (skip)
    go_simp
    all_goals with_reducible rfl
  (try simp only [Act.put, List.setIfInBounds_toArray, List.set_cons_zero, List.set_cons_succ])
  refine wpAnyH_take (i := 10) (v := ?_) rfl (by kernel_rfl) (by kernel_rfl) (by kernel_rfl) (fun _ _ _ h => h) (Or.inl ⟨by rfl, ?_⟩) (by assumption) ?_
  rotate_left
  · intro wS hSw
    (skip)
    go_simp
    all_goals with_reducible rfl
  (try simp only [Act.put, List.setIfInBounds_toArray, List.set_cons_zero, List.set_cons_succ])
  rw [show (((s.a.toNat &&& v.toNat : Nat) : Int) != 0) = true from bne_iff_ne.2 (fun g => hq' (by rw [BitVec.toNat_and]; exact g))]
  refine held_one (i := 11) (by kernel_rfl) rfl (fun K hK => ?_)
  go_simp
  go_at_call 122
  refine (p_branch_t _ b qv dv mv s c jt jf k HM3.out hp hj).mono ?_
  rintro e w5 ⟨rfl, hm, hg⟩
  refine hK.out _ _ ⟨rowIs_grown hHeld.1 hg (fun e => hne (by injection e)), World.rowIs.cell hm (i := 3) (by decide)⟩ (fun _ => ?_)
  refine wpAnyH_done (by kernel_rfl) ?_ _
  go_wp2
  go_end0
  exact ⟨rfl, hm, grown_trans G3.out hg⟩
set_option maxHeartbeats 1000000 in
theorem p_ifCommon_f (h : PMAt w b qv dv mv s) (hv : Opnd c k s v) (hq : s.a &&& v = 0#32) (hp : s.place ≤ 140737488351232) (hj : jf < 256) : Calls Tryz.prog 100 #[.pointer (some ⟨b, 0, none⟩), .agg #[.int .u16 c, .int .u8 (jt : Int), .int .u8 (jf : Int), .int .u32 (k.toNat : Int)]] w (OpP w b qv dv mv { s with place := s.place + jf }) := by
  have hlt := World.rowIs.lt h
  have HM1 := Lib.hid (h.alloc (insO c jt jf k))
  have HD := Lib.hid (ins_box w c jt jf k)
  have G1 := Lib.hid (grown_alloc (World.grownBy.refl w (some b)) (insO c jt jf k))
  have hq2 := and32 s.a v
  rw [hq, show ((0#32 : BitVec 32).toNat : Int) = 0 from rfl] at hq2
  clear hq
  clear h
  go_enter Tryz.func100, Tryz.ntmps100
  go_wp2
  generalize w.alloc (insO c jt jf k) = W1 at HM1 HD G1 ⊢
  generalize w.heap.size = g at HD hlt ⊢
  have hne : ¬ g = b := by omega
  refine wp_region_held_drew (S := fun w' => w'.rowIs g 60 4 (insF ⟨c, jt, jf, k⟩) ∧ w'.cell? ⟨b, 3, none⟩ = some (.int .u32 (s.a.toNat : Int))) (by kernel_rfl) ⟨HD.out, World.rowIs.cell HM1.out (i := 3) (by decide)⟩ (fun hHeld => ?_)
  have HM2 := Lib.hid HM1.out.drew
  have G2 : Hid (w.grownBy W1.drew (some b)) := Lib.hid (grown_drawn G1.out 1)
  clear HM1 HD G1
  generalize W1.drew = W2 at HM2 G2 hHeld ⊢
  refine wpAnyH_take (i := 0) (v := ?_) rfl (by kernel_rfl) (by kernel_rfl) (by kernel_rfl) (fun _ _ _ h => h) (Or.inl ⟨by rfl, ?_⟩) (by assumption) ?_
  rotate_left
  · intro wS hSw
    (obtain ⟨q0, q1, q2, q3⟩ := ins_cells hSw.1; have q4 := hSw.2; clear hSw)
    go_simp
    all_goals with_reducible rfl
  (try simp only [Act.put, List.setIfInBounds_toArray, List.set_cons_zero, List.set_cons_succ])
  refine wpAnyH_take (i := 1) (v := ?_) rfl (by kernel_rfl) (by kernel_rfl) (by kernel_rfl) (fun _ _ _ h => h) (Or.inl ⟨by rfl, ?_⟩) (by assumption) ?_
  rotate_left
  · intro wS hSw
    (obtain ⟨q0, q1, q2, q3⟩ := ins_cells hSw.1; have q4 := hSw.2; clear hSw)
    go_simp
    all_goals with_reducible rfl
  (try simp only [Act.put, List.setIfInBounds_toArray, List.set_cons_zero, List.set_cons_succ])
  refine wpAnyH_take (i := 2) (v := ?_) rfl (by kernel_rfl) (by kernel_rfl) (by kernel_rfl) (fun _ _ _ h => h) (Or.inl ⟨by rfl, ?_⟩) (by assumption) ?_
  rotate_left
  · intro wS hSw
    (obtain ⟨q0, q1, q2, q3⟩ := ins_cells hSw.1; have q4 := hSw.2; clear hSw)
    go_simp
    all_goals with_reducible rfl
  (try simp only [Act.put, List.setIfInBounds_toArray, List.set_cons_zero, List.set_cons_succ])
  refine wpAnyH_take (i := 3) (v := ?_) rfl (by kernel_rfl) (by kernel_rfl) (by kernel_rfl) (fun _ _ _ h => h) (Or.inl ⟨by rfl, ?_⟩) (by assumption) ?_
  rotate_left
  · intro wS hSw
    (obtain ⟨q0, q1, q2, q3⟩ := ins_cells hSw.1; have q4 := hSw.2; clear hSw)
    go_simp
    all_goals with_reducible rfl
  (try simp only [Act.put, List.setIfInBounds_toArray, List.set_cons_zero, List.set_cons_succ])
  refine wpAnyH_take (i := 4) (v := ?_) rfl (by kernel_rfl) (by kernel_rfl) (by kernel_rfl) (fun _ _ _ h => h) (Or.inl ⟨by rfl, ?_⟩) (by assumption) ?_
  rotate_left
  · intro wS hSw
    (obtain ⟨q0, q1, q2, q3⟩ := ins_cells hSw.1; have q4 := hSw.2; clear hSw)
    go_simp
    all_goals with_reducible rfl
  (try simp only [Act.put, List.setIfInBounds_toArray, List.set_cons_zero, List.set_cons_succ])
  refine wpAnyH_take (i := 5) (v := ?_) rfl (by kernel_rfl) (by kernel_rfl) (by kernel_rfl) (fun _ _ _ h => h) (Or.inl ⟨by rfl, ?_⟩) (by assumption) ?_
  rotate_left
  · intro wS hSw
    (obtain ⟨q0, q1, q2, q3⟩ := ins_cells hSw.1; have q4 := hSw.2; clear hSw)
    go_simp
    all_goals with_reducible rfl
  (try simp only [Act.put, List.setIfInBounds_toArray, List.set_cons_zero, List.set_cons_succ])
  refine wpAnyH_take (i := 6) (v := ?_) rfl (by kernel_rfl) (by kernel_rfl) (by kernel_rfl) (fun _ _ _ h => h) (Or.inl ⟨by rfl, ?_⟩) (by assumption) ?_
  rotate_left
  · intro wS hSw
    (obtain ⟨q0, q1, q2, q3⟩ := ins_cells hSw.1; have q4 := hSw.2; clear hSw)
    go_simp
    all_goals with_reducible rfl
  (try simp only [Act.put, List.setIfInBounds_toArray, List.set_cons_zero, List.set_cons_succ])
  refine wpAnyH_take (i := 7) (v := ?_) rfl (by kernel_rfl) (by kernel_rfl) (by kernel_rfl) (fun _ _ _ h => h) (Or.inl ⟨by rfl, ?_⟩) (by assumption) ?_
  rotate_left
  · intro wS hSw
    (obtain ⟨q0, q1, q2, q3⟩ := ins_cells hSw.1; have q4 := hSw.2; clear hSw)
    go_simp
    all_goals with_reducible rfl
  (try simp only [Act.put, List.setIfInBounds_toArray, List.set_cons_zero, List.set_cons_succ])
  refine held_one (i := 8) (by kernel_rfl) rfl (fun K hK => ?_)
  go_simp
  go_at_call 120
  refine (p_operand _ b qv dv mv s c jt jf k v HM2.out hv).mono ?_
  rintro e w4 ⟨rfl, rfl⟩
  have HM3 := Lib.hid (HM2.out.alloc (insO c jt jf k))
  refine hK.out _ _ ⟨World.rowIs.alloc hHeld.1 _, World.rowIs.cell HM3.out (i := 3) (by decide)⟩ (fun hHeld => ?_)
  have G3 := Lib.hid (grown_alloc G2.out (insO c jt jf k))
  clear hK K HM2 G2
  generalize W2.alloc (insO c jt jf k) = W3 at HM3 G3 hHeld ⊢
  (try simp only [Act.put, List.setIfInBounds_toArray, List.set_cons_zero, List.set_cons_succ])
  refine wpAnyH_take (i := 9) (v := ?_) rfl (by kernel_rfl) (by kernel_rfl) (by kernel_rfl) (fun _ _ _ h => h) (Or.inl ⟨by rfl, ?_⟩) (by assumption) ?_
  rotate_left
  · intro wS hSw
    (skip)
    go_simp
    all_goals with_reducible rfl
  (try simp only [Act.put, List.setIfInBounds_toArray, List.set_cons_zero, List.set_cons_succ])
  refine wpAnyH_take (i := 10) (v := ?_) rfl (by kernel_rfl) (by kernel_rfl) (by kernel_rfl) (fun _ _ _ h => h) (Or.inl ⟨by rfl, ?_⟩) (by assumption) ?_
  rotate_left
  · intro wS hSw
    (skip)
    go_simp
    all_goals with_reducible rfl
  (try simp only [Act.put, List.setIfInBounds_toArray, List.set_cons_zero, List.set_cons_succ])
  refine held_one (i := 11) (by kernel_rfl) rfl (fun K hK => ?_)
  go_simp
  go_at_call 122
  refine (p_branch_f _ b qv dv mv s c jt jf k HM3.out hp hj).mono ?_
  rintro e w5 ⟨rfl, hm, hg⟩
  refine hK.out _ _ ⟨rowIs_grown hHeld.1 hg (fun e => hne (by injection e)), World.rowIs.cell hm (i := 3) (by decide)⟩ (fun _ => ?_)
  refine wpAnyH_done (by kernel_rfl) ?_ _
  go_wp2
  go_end0
  exact ⟨rfl, hm, grown_trans G3.out hg⟩
end
end Go.Proofs.YtoajommeiocfpaaGreat
