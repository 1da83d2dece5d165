/-
  The program's reading of bytes as a program of classic BPF: what its Read answers, a contract for all bytes. Conditions: those that it names.
-/
import Derived.Test.YtlfbkalpnbjdjaaCbpfRead
import Derived.Test.YtlfbkalpnbjdjaaPBytes
namespace Go.Proofs.Ytlfbkalpnbjdjaa
open Go Go.RowKit
set_option linter.unusedSimpArgs false
set_option linter.unusedVariables false

theorem pl_code (b off len cap : Nat) (z : Nat → Int) (p : Nat) (hz : ∀ i, 0 ≤ z i ∧ z i < 256) (hl : len ≤ maxLen) (hp : p + 8 ≤ len) (w : World) (hc : ∀ i, i < len → w.cell? ⟨b, off + i, none⟩ = some (.int .u8 (z i))) :
    Calls Try.prog 44 #[.slice (some ⟨b, off, none⟩) len cap, .int .i64 (p : Int), .int .i64 2] w fun e w' => e = .returned (.tuple #[.int .u64 (leB (fun j => z (p + j)) 2), .int .i64 0]) ∧ w = w' :=
  word_Load b off len cap (fun j => z (p + j)) p 2 w hl (by decide) (by decide) (by omega) (fun i hi => hc _ (by omega)) (fun i => hz _)
theorem pl_k (b off len cap : Nat) (z : Nat → Int) (p : Nat) (hz : ∀ i, 0 ≤ z i ∧ z i < 256) (hl : len ≤ maxLen) (hp : p + 8 ≤ len) (w : World) (hc : ∀ i, i < len → w.cell? ⟨b, off + i, none⟩ = some (.int .u8 (z i))) :
    Calls Try.prog 44 #[.slice (some ⟨b, off, none⟩) len cap, .int .i64 ((p : Int) + 4), .int .i64 4] w fun e w' => e = .returned (.tuple #[.int .u64 (w4 z (p + 4)), .int .i64 0]) ∧ w = w' :=
  word_Load b off len cap (fun j => z (p + 4 + j)) (p + 4) 4 w hl (by decide) (by decide) (by omega) (fun i hi => hc _ (by omega)) (fun i => hz _)
theorem results_one_cell {fn : Func} {p : Tmp} {ty : TypeId} (h : fn.results = #[.cell p ty]) (tmps : Array Value) (P : Program) (w : World) :
    (results fn tmps).run P w = ((asAddr (tmps.getD p undef)).run P w).andThen fun a w₁ => (loadVar ty a).run P w₁ := by
  simp only [results, h]
  simp [Sem.run_bind, Result.andThen]
/-- What an instruction reads as. -/
def InsnP (w : World) (i : Ins) (e : Ending) (w' : World) : Prop := e = .returned (.agg #[.int .u16 i.code, .int .u8 (i.jt : Int), .int .u8 (i.jf : Int), .int .u32 (i.k.toNat : Int)]) ∧ Below w.heap.size w w'
set_option maxHeartbeats 4000000 in
theorem p_insnAt (b off m cap p : Nat) (z : Nat → Int) (w : World) (hz : ∀ i, 0 ≤ z i ∧ z i < 256) (hm : m ≤ 140737488351232) (hp : p + 8 ≤ m) (hl : b < w.heap.size) (hc : ∀ i, i < m → w.cell? ⟨b, off + i, none⟩ = some (.int .u8 (z i))) :
    Calls Try.prog 29 #[.slice (some ⟨b, off, none⟩) m cap, .int .i64 (p : Int)] w (InsnP w (readI z p)) := by
  have e0 : leB (fun j => z (p + j)) 2 = (readI z p).code := rfl
  have E16 : IntKind.u16.wrap (readI z p).code = (readI z p).code := IntWalk.u16_in _ (by have := le2_bd hz p; rw [← e0]; omega)
  have e3 : w4 z (p + 4) = ((readI z p).k.toNat : Int) := (wordZ_nat hz _).symm
  have E32 : IntKind.u32.wrap ((readI z p).k.toNat : Int) = ((readI z p).k.toNat : Int) := IntWalk.u32_in _ (by have := (readI z p).k.isLt; omega)
  have e1 : z (p + 2) = ((readI z p).jt : Int) := (Int.toNat_of_nonneg (hz _).1).symm
  have e2 : z (p + 3) = ((readI z p).jf : Int) := (Int.toNat_of_nonneg (hz _).1).symm
  have hmx : m ≤ maxLen := by unfold maxLen; omega
  have HLc := Lib.hid (fun W (hW : ∀ i, i < m → W.cell? ⟨b, off + i, none⟩ = some (.int .u8 (z i))) => pl_code b off m cap z p hz hmx hp W hW)
  have HLk := Lib.hid (fun W (hW : ∀ i, i < m → W.cell? ⟨b, off + i, none⟩ = some (.int .u8 (z i))) => pl_k b off m cap z p hz hmx hp W hW)
  rw [e0] at HLc
  rw [e3] at HLk
  have x1 : w.cell? ⟨b, off + (p + 2), none⟩ = some (.int .u8 ((readI z p).jt : Int)) := by rw [← e1]; exact hc _ (by omega)
  have x2 : w.cell? ⟨b, off + (p + 3), none⟩ = some (.int .u8 ((readI z p).jf : Int)) := by rw [← e2]; exact hc _ (by omega)
  have HX := Lib.hid (And.intro x1 x2)
  have HR1 := Lib.hid (ins_new w)
  have HB1 := Lib.hid (box_below w (.cells #[.int .u16 0, .int .u8 0, .int .u8 0, .int .u32 0] 43))
  have HC := Lib.hid (show ∀ i, i < m → (w.alloc (.cells #[.int .u16 0, .int .u8 0, .int .u8 0, .int .u32 0] 43)).cell? ⟨b, off + i, none⟩ = some (.int .u8 (z i)) from fun i hi => (HB1.out.cell (p := ⟨b, off + i, none⟩) hl).trans (hc i hi))
  clear e0 e1 e2 e3 x1 x2 hc hz
  generalize readI z p = i at E16 E32 HLc HLk HX ⊢
  obtain ⟨c, jt, jf, kk⟩ := i
  simp only at E16 E32 HLc HLk HX
  have hw2 : IntKind.i64.wrap ((p : Int) + 2) = (p : Int) + 2 := IntWalk.i64_in _ (by omega)
  have hw3 : IntKind.i64.wrap ((p : Int) + 3) = (p : Int) + 3 := IntWalk.i64_in _ (by omega)
  have hw4 : IntKind.i64.wrap ((p : Int) + 4) = (p : Int) + 4 := IntWalk.i64_in _ (by omega)
  go_enter Try.func29, Try.ntmps29
  go_wp2_with (first
    | (go_at_call 44; (with_reducible refine (HLc.out _ HC.out).mono ?_); rintro e w' ⟨rfl, rfl⟩)
    | (go_at_call 44; (with_reducible refine (HLk.out _ HC.out).mono ?_); rintro e w' ⟨rfl, rfl⟩))
  have a2 : (0 : Int) ≤ (p : Int) + 2 := by omega
  have a3 : (0 : Int) ≤ (p : Int) + 3 := by omega
  have t2 : ((p : Int) + 2).toNat = p + 2 := by omega
  have t3 : ((p : Int) + 3).toNat = p + 3 := by omega
  have b2 : (p : Int) + 2 < (m : Int) := by omega
  have b3 : (p : Int) + 3 < (m : Int) := by omega
  have hne : ¬ w.heap.size = b := by omega
  generalize w.alloc (.cells #[.int .u16 0, .int .u8 0, .int .u8 0, .int .u32 0] 43) = W1 at HR1 HB1 HC ⊢
  refine wp_region_held_drew (S := fun w' => w'.cell? ⟨b, off + (p + 2), none⟩ = some (.int .u8 (jt : Int)) ∧ w'.cell? ⟨b, off + (p + 3), none⟩ = some (.int .u8 (jf : Int))) (by kernel_rfl) ⟨(HB1.out.cell (p := ⟨b, off + (p + 2), none⟩) hl).trans HX.out.1, (HB1.out.cell (p := ⟨b, off + (p + 3), none⟩) hl).trans HX.out.2⟩ (fun hHeld => ?_)
  have HR2 : Hid (W1.drew.rowIs w.heap.size 43 4 (insF ⟨0, 0, 0, 0#32⟩)) := HR1
  have HB2 : Hid (Below w.heap.size w W1.drew) := Lib.hid (below_drawn HB1.out 1)
  clear HR1 HB1 HC
  generalize W1.drew = W2 at HR2 HB2 hHeld ⊢
  refine wpAnyH_take (i := 0) (v := ?_) rfl (by kernel_rfl) (by kernel_rfl) (by kernel_rfl) (fun _ _ _ h => h) (Or.inl ⟨by rfl, ?_⟩) (by assumption) ?_
  rotate_left
  · intro wS hSw
    (obtain ⟨i1, i2⟩ := hSw)
    go_simp
    all_goals with_reducible rfl
  (try simp only [List.getElem_toArray, List.getElem_cons_zero, List.getElem_cons_succ, Act.put, List.setIfInBounds_toArray, List.set_cons_zero, List.set_cons_succ])
  refine wpAnyH_take (i := 1) (v := ?_) rfl (by kernel_rfl) (by kernel_rfl) (by kernel_rfl) (fun _ _ _ h => h) (Or.inl ⟨by rfl, ?_⟩) (by assumption) ?_
  rotate_left
  · intro wS hSw
    (obtain ⟨i1, i2⟩ := hSw)
    go_simp
    all_goals with_reducible rfl
  (try simp only [List.getElem_toArray, List.getElem_cons_zero, List.getElem_cons_succ, Act.put, List.setIfInBounds_toArray, List.set_cons_zero, List.set_cons_succ])
  refine wpAnyH_take (i := 2) (v := ?_) rfl (by kernel_rfl) (by kernel_rfl) (by kernel_rfl) (fun _ _ _ h => h) (Or.inl ⟨by rfl, ?_⟩) (by assumption) ?_
  rotate_left
  · intro wS hSw
    (obtain ⟨i1, i2⟩ := hSw)
    go_simp
    all_goals with_reducible rfl
  (try simp only [List.getElem_toArray, List.getElem_cons_zero, List.getElem_cons_succ, Act.put, List.setIfInBounds_toArray, List.set_cons_zero, List.set_cons_succ])
  refine wpAnyH_take (i := 3) (v := ?_) rfl (by kernel_rfl) (by kernel_rfl) (by kernel_rfl) (fun _ _ _ h => h) (Or.inl ⟨by rfl, ?_⟩) (by assumption) ?_
  rotate_left
  · intro wS hSw
    (obtain ⟨i1, i2⟩ := hSw)
    go_simp
    all_goals with_reducible rfl
  (try simp only [List.getElem_toArray, List.getElem_cons_zero, List.getElem_cons_succ, Act.put, List.setIfInBounds_toArray, List.set_cons_zero, List.set_cons_succ])
  refine wpAnyH_take (i := 4) (v := ?_) rfl (by kernel_rfl) (by kernel_rfl) (by kernel_rfl) (fun _ _ _ h => h) (Or.inl ⟨by rfl, ?_⟩) (by assumption) ?_
  rotate_left
  · intro wS hSw
    (obtain ⟨i1, i2⟩ := hSw)
    go_simp
    all_goals with_reducible rfl
  (try simp only [List.getElem_toArray, List.getElem_cons_zero, List.getElem_cons_succ, Act.put, List.setIfInBounds_toArray, List.set_cons_zero, List.set_cons_succ])
  refine wpAnyH_take (i := 5) (v := ?_) rfl (by kernel_rfl) (by kernel_rfl) (by kernel_rfl) (fun _ _ _ h => h) (Or.inl ⟨by rfl, ?_⟩) (by assumption) ?_
  rotate_left
  · intro wS hSw
    (obtain ⟨i1, i2⟩ := hSw)
    go_simp
    all_goals with_reducible rfl
  (try simp only [List.getElem_toArray, List.getElem_cons_zero, List.getElem_cons_succ, Act.put, List.setIfInBounds_toArray, List.set_cons_zero, List.set_cons_succ])
  refine wpAnyH_take (i := 6) (v := ?_) rfl (by kernel_rfl) (by kernel_rfl) (by kernel_rfl) (fun _ _ _ h => h) (Or.inl ⟨by rfl, ?_⟩) (by assumption) ?_
  rotate_left
  · intro wS hSw
    (obtain ⟨i1, i2⟩ := hSw)
    go_simp
    all_goals with_reducible rfl
  (try simp only [List.getElem_toArray, List.getElem_cons_zero, List.getElem_cons_succ, Act.put, List.setIfInBounds_toArray, List.set_cons_zero, List.set_cons_succ])
  refine wpAnyH_take (i := 7) (v := ?_) rfl (by kernel_rfl) (by kernel_rfl) (by kernel_rfl) (fun _ _ _ h => h) (Or.inl ⟨by rfl, ?_⟩) (by assumption) ?_
  rotate_left
  · intro wS hSw
    (obtain ⟨i1, i2⟩ := hSw)
    go_simp
    all_goals with_reducible rfl
  (try simp only [List.getElem_toArray, List.getElem_cons_zero, List.getElem_cons_succ, Act.put, List.setIfInBounds_toArray, List.set_cons_zero, List.set_cons_succ])
  refine wpAnyH_take (i := 8) (v := ?_) rfl (by kernel_rfl) (by kernel_rfl) (by kernel_rfl) (fun _ _ _ h => h) (Or.inl ⟨by rfl, ?_⟩) (by assumption) ?_
  rotate_left
  · intro wS hSw
    (obtain ⟨i1, i2⟩ := hSw)
    go_simp
    all_goals with_reducible rfl
  (try simp only [List.getElem_toArray, List.getElem_cons_zero, List.getElem_cons_succ, Act.put, List.setIfInBounds_toArray, List.set_cons_zero, List.set_cons_succ])
  refine wpAnyH_take (i := 9) (v := ?_) rfl (by kernel_rfl) (by kernel_rfl) (by kernel_rfl) (fun _ _ _ h => h) (Or.inl ⟨by rfl, ?_⟩) (by assumption) ?_
  rotate_left
  · intro wS hSw
    (obtain ⟨i1, i2⟩ := hSw)
    go_simp
    all_goals with_reducible rfl
  (try simp only [List.getElem_toArray, List.getElem_cons_zero, List.getElem_cons_succ, Act.put, List.setIfInBounds_toArray, List.set_cons_zero, List.set_cons_succ])
  refine wpAnyH_take (i := 10) (v := ?_) rfl (by kernel_rfl) (by kernel_rfl) (by kernel_rfl) (fun _ _ _ h => h) (Or.inl ⟨by rfl, ?_⟩) (by assumption) ?_
  rotate_left
  · intro wS hSw
    (obtain ⟨i1, i2⟩ := hSw)
    go_simp
    all_goals with_reducible rfl
  (try simp only [List.getElem_toArray, List.getElem_cons_zero, List.getElem_cons_succ, Act.put, List.setIfInBounds_toArray, List.set_cons_zero, List.set_cons_succ])
  refine wpAnyH_take (i := 11) (v := ?_) rfl (by kernel_rfl) (by kernel_rfl) (by kernel_rfl) (fun _ _ _ h => h) (Or.inl ⟨by rfl, ?_⟩) (by assumption) ?_
  rotate_left
  · intro wS hSw
    (obtain ⟨i1, i2⟩ := hSw)
    go_simp
    all_goals with_reducible rfl
  (try simp only [List.getElem_toArray, List.getElem_cons_zero, List.getElem_cons_succ, Act.put, List.setIfInBounds_toArray, List.set_cons_zero, List.set_cons_succ])
  refine wpAnyH_take (i := 12) (v := ?_) rfl (by kernel_rfl) (by kernel_rfl) (by kernel_rfl) (fun _ _ _ h => h) (Or.inl ⟨by rfl, ?_⟩) (by assumption) ?_
  rotate_left
  · intro wS hSw
    (obtain ⟨i1, i2⟩ := hSw)
    go_simp
    all_goals with_reducible rfl
  (try simp only [List.getElem_toArray, List.getElem_cons_zero, List.getElem_cons_succ, Act.put, List.setIfInBounds_toArray, List.set_cons_zero, List.set_cons_succ])
  refine wpAnyH_take (i := 13) (v := ?_) rfl (by kernel_rfl) (by kernel_rfl) (by kernel_rfl) (fun _ _ _ h => h) (Or.inl ⟨by rfl, ?_⟩) (by assumption) ?_
  rotate_left
  · intro wS hSw
    (obtain ⟨i1, i2⟩ := hSw)
    go_simp
    all_goals with_reducible rfl
  (try simp only [List.getElem_toArray, List.getElem_cons_zero, List.getElem_cons_succ, Act.put, List.setIfInBounds_toArray, List.set_cons_zero, List.set_cons_succ])
  refine wpAnyH_take (i := 14) (v := ?_) rfl (by kernel_rfl) (by kernel_rfl) (by kernel_rfl) (fun _ _ _ h => h) (Or.inl ⟨by rfl, ?_⟩) (by assumption) ?_
  rotate_left
  · intro wS hSw
    (obtain ⟨i1, i2⟩ := hSw)
    go_simp
    all_goals with_reducible rfl
  (try simp only [List.getElem_toArray, List.getElem_cons_zero, List.getElem_cons_succ, Act.put, List.setIfInBounds_toArray, List.set_cons_zero, List.set_cons_succ])
  have y0 : W2.cell? ⟨w.heap.size, 0, none⟩ = some (.int .u16 0) := World.rowIs.cell HR2.out (i := 0) (by decide)
  have y1 : W2.cell? ⟨w.heap.size, 1, none⟩ = some (.int .u8 0) := World.rowIs.cell HR2.out (i := 1) (by decide)
  have y2 : W2.cell? ⟨w.heap.size, 2, none⟩ = some (.int .u8 0) := World.rowIs.cell HR2.out (i := 2) (by decide)
  have y3 : W2.cell? ⟨w.heap.size, 3, none⟩ = some (.int .u32 0) := World.rowIs.cell HR2.out (i := 3) (by decide)
  have f0 := World.rowIs.frozen HR2.out 0
  have f1 := World.rowIs.frozen HR2.out 1
  have f2 := World.rowIs.frozen HR2.out 2
  have f3 := World.rowIs.frozen HR2.out 3
  have R3 := Lib.hid (ins_set HR2.out c jt jf kk)
  have G3 := Lib.hid (ins_grown (World.grownBy.refl W2 (some w.heap.size)) (.int .u16 c) (.int .u8 (jt : Int)) (.int .u8 (jf : Int)) (.int .u32 (kk.toNat : Int)))
  refine held_one (i := 15) (by kernel_rfl) rfl (fun K hK => ?_)
  go_simp
  refine hK.out _ _ ⟨G3.out.cell hHeld.1 (fun e => hne (by injection e with e; exact e.symm)), G3.out.cell hHeld.2 (fun e => hne (by injection e with e; exact e.symm))⟩ (fun _ => ?_)
  have HB3 := Lib.hid (below_grown HB2.out G3.out (Nat.le_refl _) (Nat.le_refl _))
  clear hK K hHeld y0 y1 y2 y3 f0 f1 f2 f3 G3 HB2 HR2
  refine wpAnyH_done (by kernel_rfl) ?_ _
  generalize (((W2.setCell ⟨w.heap.size, 0, none⟩ (.int .u16 c)).setCell ⟨w.heap.size, 1, none⟩ (.int .u8 (jt : Int))).setCell ⟨w.heap.size, 2, none⟩ (.int .u8 (jf : Int))).setCell ⟨w.heap.size, 3, none⟩ (.int .u32 (kk.toNat : Int)) = W3 at R3 HB3 ⊢
  obtain ⟨d0, d1, d2, d3⟩ := ins_cells R3.out
  go_wp2
  (try simp only [Exit.inBlock, Exit.then])
  refine bodyPost_ret (v := .agg #[.int .u16 c, .int .u8 (jt : Int), .int .u8 (jf : Int), .int .u32 (kk.toNat : Int)]) ?_ rfl ⟨rfl, HB3.out⟩
  rw [results_one_cell rfl]
  go_simp

theorem p_insnAtI (b off m cap p : Nat) (pi : Int) (hpi : pi = (p : Int)) (z : Nat → Int) (w : World) (hz : ∀ i, 0 ≤ z i ∧ z i < 256) (hm : m ≤ 140737488351232) (hp : p + 8 ≤ m) (hl : b < w.heap.size) (hc : ∀ i, i < m → w.cell? ⟨b, off + i, none⟩ = some (.int .u8 (z i))) :
    Calls Try.prog 29 #[.slice (some ⟨b, off, none⟩) m cap, .int .i64 pi] w (InsnP w (readI z p)) := by
  subst hpi; exact p_insnAt b off m cap p z w hz hm hp hl hc
theorem made_ins (w : World) (n : Nat) : (w.alloc (.cells (madeCells (Value.agg #[.int .u16 0, .int .u8 0, .int .u8 0, .int .u32 0]).cells (n * 4)) 43)).rowIs w.heap.size 43 (n * 4) (fun k => insF ⟨0, 0, 0, 0#32⟩ (k % 4)) :=
  ⟨madeCells (Value.agg #[.int .u16 0, .int .u8 0, .int .u8 0, .int .u32 0]).cells (n * 4), (MapKept.heap_alloc w _).1, size_madeCells _ _, fun k hk => by
    have h4 : (Value.agg #[.int .u16 0, .int .u8 0, .int .u8 0, .int .u32 0]).cells = #[.int .u16 0, .int .u8 0, .int .u8 0, .int .u32 0] := rfl
    rw [h4]
    have hf : k % 4 = 0 ∨ k % 4 = 1 ∨ k % 4 = 2 ∨ k % 4 = 3 := by omega
    rcases hf with f | f | f | f <;> simp [madeCells, hk, f, insF]⟩
theorem wpList_make_ins (w : World) {ops : Array Oper} {rest : List Oper} {o : Oper} {a : Act} {Q : Exit → Act → World → Prop} (hg : o.guard = none) (l c : Operand) (hop : o.op = Op.makeSlice 22 l c)
    (n : Nat) (hl : a.eval l = .int .i64 (n : Int)) (hc : a.eval c = .int .i64 (n : Int)) (hn : n * 8 ≤ 140737488351232)
    (h : ∀ (g : Nat) (w' : World), w'.rowIs g 43 (n * 4) (fun k => insF ⟨0, 0, 0, 0#32⟩ (k % 4)) → Below w.heap.size w w' → w.heap.size ≤ g → wpList Try.prog ops Q rest (a.put o.dst (.slice (some ⟨g, 0, none⟩) n n)) w') : wpList Try.prog ops Q (o :: rest) a w := by
  obtain ⟨i, hi, hz, hsize, hby⟩ := info_partsN info_ins
  refine wpList_plain hg fun K hK' => ?_
  have hrun := run_make (P := Try.prog) w 22 43 i _ Try.underlying22 hi hz .i64 .i64 n n (by omega) (Int.le_refl _) (by rw [hby]; omega) (by omega)
  simp only [Int.toNat_natCast, hsize] at hrun
  unfold Oper.wp
  simp [execOp, hop, hl, hc, hrun, Result.andThen]
  exact hK' _ _ (h _ _ (made_ins w n) (box_below w _) (Nat.le_refl _))

theorem cbpf_Read_no (A : Option Addr) (len cap : Nat) (hl : len ≤ maxLen) (h : ¬ len % 8 = 0) (w : World) :
    Calls Try.prog 14 #[.slice A len cap] w fun e w' => e = .returned (.tuple #[.slice none 0 0, .int .i64 31]) ∧ w = w' := by
  unfold maxLen at hl
  have h1 : (len : Int).tmod 8 = ((len % 8 : Nat) : Int) := by rw [Int.tmod_eq_emod_of_nonneg (by omega)]; omega
  have h2 : ¬ ((len % 8 : Nat) : Int) = 0 := by omega
  generalize len % 8 = r at h1 h2
  clear h
  go_enter Try.func14, Try.ntmps14
  go_wp2
  go_ret2
  exact ⟨rfl, rfl⟩
/-- So far read. -/
def readF (z : Nat → Int) (i k : Nat) : Value := if k < i * 4 then insF (readI z (k / 4 * 8)) (k % 4) else insF ⟨0, 0, 0, 0#32⟩ (k % 4)
theorem readF_zero (z : Nat → Int) : readF z 0 = fun k => insF ⟨0, 0, 0, 0#32⟩ (k % 4) := by funext k; unfold readF; rw [if_neg (by omega)]
theorem readF_step {w : World} {g m i : Nat} {z : Nat → Int} {ii : Ins} (hii : readI z (i * 8) = ii) (h : w.rowIs g 43 m (readF z i)) :
    ((((w.setCell ⟨g, i * 4, none⟩ (.int .u16 ii.code)).setCell ⟨g, i * 4 + 1, none⟩ (.int .u8 (ii.jt : Int))).setCell ⟨g, i * 4 + 2, none⟩ (.int .u8 (ii.jf : Int))).setCell ⟨g, i * 4 + 3, none⟩ (.int .u32 (ii.k.toNat : Int))).rowIs g 43 m (readF z (i + 1)) :=
  ((((World.rowIs.set h (i * 4) _).set (i * 4 + 1) _).set (i * 4 + 2) _).set (i * 4 + 3) _).congr fun k hk => by
    by_cases g : k / 4 = i
    · have e : readF z (i + 1) k = insF ii (k % 4) := by unfold readF; rw [if_pos (by omega), g, hii]
      rw [e]
      have hf : k % 4 = 0 ∨ k % 4 = 1 ∨ k % 4 = 2 ∨ k % 4 = 3 := by omega
      rcases hf with f | f | f | f
      · rw [f, if_neg (by omega), if_neg (by omega), if_neg (by omega), if_pos (by omega)]; rfl
      · rw [f, if_neg (by omega), if_neg (by omega), if_pos (by omega)]; rfl
      · rw [f, if_neg (by omega), if_pos (by omega)]; rfl
      · rw [f, if_pos (by omega)]; rfl
    · rw [if_neg (by omega), if_neg (by omega), if_neg (by omega), if_neg (by omega)]
      unfold readF
      by_cases h1 : k < i * 4
      · rw [if_pos h1, if_pos (by omega)]
      · rw [if_neg h1, if_neg (by omega)]
def PReadP (w : World) (n : Nat) (z : Nat → Int) (e : Ending) (w' : World) : Prop := ∃ g, e = .returned (.tuple #[.slice (some ⟨g, 0, none⟩) n n, .int .i64 0]) ∧ ProgAt w' (some ⟨g, 0, none⟩) n (fun i => readI z (i * 8)) ∧ Below w.heap.size w w' ∧ w.heap.size ≤ g
set_option maxHeartbeats 4000000 in
theorem cbpf_Read (w : World) (A : Option Addr) (n cap : Nat) (z : Nat → Int) (hn : n * 8 ≤ 140737488351232) (hz : ∀ i, 0 ≤ z i ∧ z i < 256) (h : Holds w A (n * 8) (fun i => .int .u8 (z i))) :
    Calls Try.prog 14 #[.slice A (n * 8) cap] w (PReadP w n z) := by
  have HP := Lib.hid h
  have HZ := Lib.hid hz
  have h1 : ((n * 8 : Nat) : Int).tmod 8 = 0 := by rw [Int.tmod_eq_emod_of_nonneg (by omega)]; omega
  have h2 : ((n * 8 : Nat) : Int).tdiv 8 = (n : Int) := by rw [Int.tdiv_eq_ediv_of_nonneg (by omega)]; omega
  have h3 : IntKind.i64.wrap (n : Int) = (n : Int) := IntWalk.i64_in _ (by omega)
  generalize hm : n * 8 = m at *
  clear h hz
  go_enter Try.func14, Try.ntmps14
  go_wp2_with (refine wpList_make_ins _ rfl _ _ rfl n rfl rfl (by omega) ?_; intro g w1 hr1 hb1 hge; have HR := Lib.hid (show w1.rowIs g 43 (n * 4) (readF z 0) from by rw [readF_zero]; exact hr1); have HB := Lib.hid hb1; clear hr1 hb1)
  go_loopw [16] (fun i wr => ∃ k : Nat, k ≤ n ∧ i = .int .i64 (k : Int) ∧ wr.rowIs g 43 (n * 4) (readF z k) ∧ Below w.heap.size w wr) (fun i _ => n - (intOf i).toNat)
  case atStart => exact ⟨0, by omega, rfl, HR.out, HB.out⟩
  case round =>
    obtain ⟨i, hi, rfl, hr, hb⟩ := hrel
    clear HR HB h1 h2
    have HR := Lib.hid hr
    have HB := Lib.hid hb
    clear hr hb
    by_cases hlt : i < n
    · have hlt' : (i : Int) < (n : Int) := by omega
      obtain ⟨b, off, rfl, hl, hc⟩ := HP.out (by omega)
      have hlr : b < wr.heap.size := Nat.lt_of_lt_of_le hl HB.out.size
      have HCr := Lib.hid (show ∀ i, i < m → wr.cell? ⟨b, off + i, none⟩ = some (.int .u8 (z i)) from fun i hi => (HB.out.cell (p := ⟨b, off + i, none⟩) hl).trans (hc i hi))
      have hwm : IntKind.i64.wrap ((i : Int) * 8) = (i : Int) * 8 := IntWalk.i64_in _ (by omega)
      have hw1 : IntKind.i64.wrap ((i : Int) + 1) = (i : Int) + 1 := IntWalk.i64_in _ (by omega)
      have HV := Lib.hid (p_insnAtI b off m cap (i * 8) ((i : Int) * 8) (by simp) z wr HZ.out (by omega) (by omega) hlr HCr.out)
      have hgl := World.rowIs.lt HR.out
      clear hc HCr
      generalize hii : readI z (i * 8) = ii at HV
      go_wp2_with (go_at_call 29; (with_reducible refine HV.out.mono ?_); rintro e w2 ⟨rfl, hb2⟩; have HR2 := Lib.hid (rowIs_below HR.out hb2 hgl); have HB2 := Lib.hid (HB.out.trans (hb2.mono HB.out.size)); have y0 := World.rowIs.cell HR2.out (i := i * 4) (by omega); have y1 := World.rowIs.cell HR2.out (i := i * 4 + 1) (by omega); have y2 := World.rowIs.cell HR2.out (i := i * 4 + 2) (by omega); have y3 := World.rowIs.cell HR2.out (i := i * 4 + 3) (by omega); have f0 := World.rowIs.frozen HR2.out (i * 4); have f1 := World.rowIs.frozen HR2.out (i * 4 + 1); have f2 := World.rowIs.frozen HR2.out (i * 4 + 2); have f3 := World.rowIs.frozen HR2.out (i * 4 + 3); clear hb2 HR HB)
      go_roundw
      case rel => exact ⟨i + 1, by omega, by go_num, readF_step hii HR2.out, below_grown HB2.out (grown_set (grown_set (grown_set (grown_set (World.grownBy.refl w2 (some g)) _ _) _ _) _ _) _ _) hge (Nat.le_refl _)⟩
      case measure => simp [intOf]; omega
    · obtain rfl : i = n := by omega
      go_wp2
      go_ret2
      exact ⟨g, rfl, prog_of_row HR.out (fun k hk => by unfold readF progF; rw [if_pos hk]) (Nat.le_refl _), HB.out, hge⟩
end Go.Proofs.Ytlfbkalpnbjdjaa
