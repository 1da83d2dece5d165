/-
  The statements' own Lent and Kept of layer 12, their argument, what stands while a law goes on: contracts. Conditions: those that each names.
-/
import Derived.Test.YtoajommeiocfpaaDoorMirRegs
import Derived.Test.YtoajommeiocfpaaDoorRowsN
import Derived.Deep.Cut
import Derived.Test.YtoajommeiocfpaaDoorMirMem
import Derived.Test.YtoajommeiocfpaaDoorRowsSized
import Derived.Test.YtoajommeiocfpaaDoorMirHead
namespace Go.Proofs.YtoajommeiocfpaaDoor
open Go Go.RowKit
set_option linter.unusedSimpArgs false
set_option linter.unusedVariables false
set_option maxRecDepth 100000

/-- append onto a row of the call's own, where a region draws its order. -/
theorem oper_append_rowsM {P : Program} {w : World} {o : Oper} {a : Act} {K : Act → World → Prop} {Q : Exit → Act → World → Prop} (s x : Operand) (t : TypeId)
    (ho : o.op = .call { callee := .builtin .append, args := #[s, x], argTypes := #[t, t] }) (e : TypeId) (z : Value) (sz bytes : Nat) (ht : P.underlying t = some (.slice e))
    (hinfo : (P.info? e).map (fun i => (i.zero, i.size, i.bytes)) = some (some z, sz, bytes)) (hzs : z.cells.size = sz) (hpos : 0 < sz) (g n0 c0 : Nat) (F : Nat → Value) (hv : a.eval s = .slice (some ⟨g, 0, none⟩) n0 c0) (hr : w.rowIs g e (c0 * sz) F) (h0 : n0 ≤ c0) (hm : c0 ≤ maxLen)
    (A : Option Addr) (n c : Nat) (Z : Nat → Value) (hu : a.eval x = .slice A n c) (hs : Holds w A (n * sz) Z) (h1 : ∀ k, (Z k).oneCell' = true) (hlen : n0 + n ≤ maxLen) (hbytes : (n0 + n) * bytes ≤ 140737488355328)
    (h : ∀ (g' cap' : Nat) (F' : Nat → Value) (w' : World), w'.rowIs g' e (cap' * sz) F' → n0 + n ≤ cap' → cap' ≤ maxLen → (∀ k, k < n0 * sz → F' k = F k) → (∀ k, k < n * sz → F' (n0 * sz + k) = Z k) → w.grownBy w' (some g) → (g' = g ∨ g' = w.heap.size) →
      K (a.put o.dst (.slice (some ⟨g', 0, none⟩) (n0 + n) cap')) w') : Oper.wp P o a w K Q := by
  obtain ⟨i, hi, hz, hsize, hby⟩ := info_partsN hinfo
  obtain ⟨g', cap', F', w', hrun, b1, b2, b3, b4, b5, b6, b7⟩ := append_rows w t o.type e i z sz bytes ht hi hz hsize hby hzs hpos g n0 c0 F hr h0 hm A n c Z hs h1 hlen hbytes
  unfold Oper.wp execOp
  simp only [ho, resolve, invoke, builtin, Sem.run_bind, Sem.run_pure, Result.andThen_ok, List.map_toArray, List.map_cons, List.map_nil, hv, hu, hrun]
  exact h g' cap' F' w' b1 b2 b3 b4 b5 b6 b7
/-- A program's cells. -/
def irF (q : Nat → Irx) (k : Nat) : Value := (irL (q (k / 7))).getD (k % 7) undef
theorem irF_at (q : Nat → Irx) (i j : Nat) (hj : j < 7) : irF q (i * 7 + j) = (irL (q i)).getD j undef := by
  rw [irF, show (i * 7 + j) / 7 = i by omega, show (i * 7 + j) % 7 = j by omega]
theorem irF_one (q : Nat → Irx) (k : Nat) : (irF q k).oneCell' = true := by
  rw [irF]
  have : k % 7 = 0 ∨ k % 7 = 1 ∨ k % 7 = 2 ∨ k % 7 = 3 ∨ k % 7 = 4 ∨ k % 7 = 5 ∨ k % 7 = 6 := by omega
  rcases this with h | h | h | h | h | h | h <;> rw [h] <;> rfl
theorem irL_get (x : Irx) {j : Nat} (hj : j < 7) : (irL x)[j]? = some ((irL x).getD j undef) := by
  rw [List.getD_eq_getElem?_getD, List.getElem?_eq_getElem (show j < (irL x).length from hj)]; rfl
theorem holds_of_ir {w : World} {A : Option Addr} {n : Nat} {q : Nat → Irx} (h : IrAt w A n q) : Holds w A (n * 7) (irF q) := fun hn => by
  obtain ⟨b, o, rfl, hl, hc⟩ := h.2 (by omega)
  refine ⟨b, o, rfl, hl, fun i hi => ?_⟩
  have := hc (i / 7) (by omega) (i % 7) _ (irL_get _ (Nat.mod_lt _ (by decide)))
  rw [irF, ← this]
  congr 2
  omega
theorem ir_of_row {w : World} {g m n : Nat} {t : TypeId} {F : Nat → Value} {q : Nat → Irx} (h : w.rowIs g t m F) (hF : ∀ k, k < n * 7 → F k = irF q k) (hm : n * 7 ≤ m) (hn : n ≤ maxLen) : IrAt w (some ⟨g, 0, none⟩) n q := ⟨hn, fun _ => by
  refine ⟨g, 0, rfl, h.lt, fun i hi j u hj => ?_⟩
  have hj7 : j < 7 := (List.getElem?_eq_some_iff.1 hj).1
  rw [show 0 + i * 7 + j = i * 7 + j by omega, World.rowIs.cell h (by omega), hF _ (by omega), irF_at _ _ _ hj7, ← hj, irL_get _ hj7]⟩
abbrev markI : Irx := ⟨77, 0, 0, 0, 0#32, 0, 0⟩
abbrev markO : Obj := .cells #[.int .i64 77, .int .i64 0, .int .i64 0, .int .i64 0, .int .u32 0, .int .i64 0, .int .i64 0] 59
theorem mark_made (w : World) : Holds (w.alloc markO) (some ⟨w.heap.size, 0, none⟩) (1 * 7) (irF fun _ => markI) := fun _ =>
  ⟨w.heap.size, 0, rfl, by simp, fun i hi => by
    have : i = 0 ∨ i = 1 ∨ i = 2 ∨ i = 3 ∨ i = 4 ∨ i = 5 ∨ i = 6 := by omega
    rcases this with rfl | rfl | rfl | rfl | rfl | rfl | rfl <;> simp [irF, irL, markI]⟩
theorem info_irM : (Tryd.prog.info? 59).map (fun i => (i.zero, i.size, i.bytes)) = some (some (.agg #[.int .i64 0, .int .i64 0, .int .i64 0, .int .i64 0, .int .u32 0, .int .i64 0, .int .i64 0]), 7, 56) := by kernel_rfl
/-- What Lent leaves: the same instructions in new memory, the mark behind. -/
def LentM (w w' : World) (g cap n : Nat) (q : Nat → Irx) : Prop :=
  ∃ F, w'.rowIs g 59 (cap * 7) F ∧ n + 1 ≤ cap ∧ cap ≤ maxLen ∧ (∀ k, k < n * 7 → F k = irF q k) ∧ F (n * 7) = .int .i64 77 ∧ Below w.heap.size w w' ∧ w.heap.size ≤ g
theorem LentM.prog {w w' : World} {g cap n : Nat} {q : Nat → Irx} (h : LentM w w' g cap n q) : IrAt w' (some ⟨g, 0, none⟩) n q := by
  obtain ⟨F, hr, hc, hm, hF, _⟩ := h
  exact ir_of_row hr hF (by omega) (by omega)
theorem LentM.mark {w w' : World} {g cap n : Nat} {q : Nat → Irx} (h : LentM w w' g cap n q) : w'.cell? ⟨g, n * 7, none⟩ = some (.int .i64 77) := by
  obtain ⟨F, hr, hc, _, _, h77, _⟩ := h
  rw [← h77]; exact World.rowIs.cell hr (by omega)
theorem LentM.lt {w w' : World} {g cap n : Nat} {q : Nat → Irx} (h : LentM w w' g cap n q) : g < w'.heap.size := by
  obtain ⟨F, hr, _⟩ := h
  exact hr.lt
theorem LentM.bel {w w' : World} {g cap n : Nat} {q : Nat → Irx} (h : LentM w w' g cap n q) : Below w.heap.size w w' := by
  obtain ⟨F, _, _, _, _, _, hb, _⟩ := h
  exact hb
theorem LentM.cap {w w' : World} {g cap n : Nat} {q : Nat → Irx} (h : LentM w w' g cap n q) : n + 1 ≤ cap := by
  obtain ⟨F, _, hc, _⟩ := h
  exact hc

set_option maxHeartbeats 16000000 in
theorem lent_M (w : World) (regs : Int) (A : Option Addr) (n cap : Nat) (q : Nat → Irx) (hn : n * 56 ≤ 140737488351232) (h : IrAt w A n q) :
    Calls Tryd.prog 8 #[mirV regs A n cap] w fun e w' => ∃ g cap', e = .returned (mirV regs (some ⟨g, 0, none⟩) n cap') ∧ LentM w w' g cap' n q := by
  have hX : Below w.heap.size w ((w.alloc (mirO regs A n cap)).alloc (.cells #[.int .i64 0, .slice none 0 0] 24)) ∧ ((w.alloc (mirO regs A n cap)).alloc (.cells #[.int .i64 0, .slice none 0 0] 24)).heap[w.heap.size]? = some (mirO regs A n cap) ∧ ((w.alloc (mirO regs A n cap)).alloc (.cells #[.int .i64 0, .slice none 0 0] 24)).heap[w.heap.size + 1]? = some (.cells #[.int .i64 0, .slice none 0 0] 24) ∧ w.heap.size + 2 ≤ ((w.alloc (mirO regs A n cap)).alloc (.cells #[.int .i64 0, .slice none 0 0] 24)).heap.size :=
    ⟨onM (lboxM w _) (lboxM _ _), kept_allocM (World.alloc_heap_new w _) _, by simpa using World.alloc_heap_new (w.alloc (mirO regs A n cap)) (.cells #[.int .i64 0, .slice none 0 0] 24), by simp⟩
  have HX := Lib.hid hX
  have HI := Lib.hid h
  clear hX h
  go_enter Tryd.func8, Tryd.ntmps8
  go_wp2
  refine wp_region_held_drew (S := fun W' => W'.heap[w.heap.size]? = some (mirO regs A n cap)) (by kernel_rfl) HX.out.2.1 (fun hHeld => ?_)
  have HY : Hid (Below w.heap.size w ((w.alloc (mirO regs A n cap)).alloc (.cells #[.int .i64 0, .slice none 0 0] 24)).drew ∧ ((w.alloc (mirO regs A n cap)).alloc (.cells #[.int .i64 0, .slice none 0 0] 24)).drew.heap[w.heap.size]? = some (mirO regs A n cap) ∧ ((w.alloc (mirO regs A n cap)).alloc (.cells #[.int .i64 0, .slice none 0 0] 24)).drew.heap[w.heap.size + 1]? = some (.cells #[.int .i64 0, .slice none 0 0] 24) ∧ w.heap.size + 2 ≤ ((w.alloc (mirO regs A n cap)).alloc (.cells #[.int .i64 0, .slice none 0 0] 24)).drew.heap.size) := Lib.hid ⟨HX.out.1.drew, HX.out.2⟩
  clear HX
  generalize ((w.alloc (mirO regs A n cap)).alloc (.cells #[.int .i64 0, .slice none 0 0] 24)).drew = Y at HY hHeld ⊢
  refine wpAnyH_take (i := 0) (v := ?_) rfl (by kernel_rfl) (by kernel_rfl) (by kernel_rfl) (fun _ _ _ h => h) (Or.inl ⟨by rfl, ?_⟩) (by assumption) ?_
  rotate_left
  · intro wS hSw
    (have a0 := cellM hSw 0 rfl; have a1 := cellM hSw 1 rfl; clear hSw)
    go_simp
    all_goals with_reducible rfl
  (try simp only [List.getElem_toArray, List.getElem_cons_zero, List.getElem_cons_succ, Act.put, List.setIfInBounds_toArray, List.set_cons_zero, List.set_cons_succ])
  refine wpAnyH_take (i := 1) (v := ?_) rfl (by kernel_rfl) (by kernel_rfl) (by kernel_rfl) (fun _ _ _ h => h) (Or.inl ⟨by rfl, ?_⟩) (by assumption) ?_
  rotate_left
  · intro wS hSw
    (have a0 := cellM hSw 0 rfl; have a1 := cellM hSw 1 rfl; clear hSw)
    go_simp
    all_goals with_reducible rfl
  (try simp only [List.getElem_toArray, List.getElem_cons_zero, List.getElem_cons_succ, Act.put, List.setIfInBounds_toArray, List.set_cons_zero, List.set_cons_succ])
  refine wpAnyH_take (i := 3) (v := ?_) rfl (by kernel_rfl) (by kernel_rfl) (by kernel_rfl) (fun _ _ _ h => h) (Or.inl ⟨by rfl, ?_⟩) (by assumption) ?_
  rotate_left
  · intro wS hSw
    (have a0 := cellM hSw 0 rfl; have a1 := cellM hSw 1 rfl; clear hSw)
    go_simp
    all_goals with_reducible rfl
  (try simp only [List.getElem_toArray, List.getElem_cons_zero, List.getElem_cons_succ, Act.put, List.setIfInBounds_toArray, List.set_cons_zero, List.set_cons_succ])
  refine wpAnyH_take (i := 4) (v := ?_) rfl (by kernel_rfl) (by kernel_rfl) (by kernel_rfl) (fun _ _ _ h => h) (Or.inl ⟨by rfl, ?_⟩) (by assumption) ?_
  rotate_left
  · intro wS hSw
    (have a0 := cellM hSw 0 rfl; have a1 := cellM hSw 1 rfl; clear hSw)
    go_simp
    all_goals with_reducible rfl
  (try simp only [List.getElem_toArray, List.getElem_cons_zero, List.getElem_cons_succ, Act.put, List.setIfInBounds_toArray, List.set_cons_zero, List.set_cons_succ])
  refine wpAnyH_take (i := 6) (v := ?_) rfl (by kernel_rfl) (by kernel_rfl) (by kernel_rfl) (fun _ _ _ h => h) (Or.inl ⟨by rfl, ?_⟩) (by assumption) ?_
  rotate_left
  · intro wS hSw
    (have a0 := cellM hSw 0 rfl; have a1 := cellM hSw 1 rfl; clear hSw)
    go_simp
    all_goals with_reducible rfl
  (try simp only [List.getElem_toArray, List.getElem_cons_zero, List.getElem_cons_succ, Act.put, List.setIfInBounds_toArray, List.set_cons_zero, List.set_cons_succ])
  refine wpAnyH_take (i := 9) (v := ?_) rfl (by kernel_rfl) (by kernel_rfl) (by kernel_rfl) (fun _ _ _ h => h) (Or.inl ⟨by rfl, ?_⟩) (by assumption) ?_
  rotate_left
  · intro wS hSw
    (have a0 := cellM hSw 0 rfl; have a1 := cellM hSw 1 rfl; clear hSw)
    go_simp
    all_goals with_reducible rfl
  (try simp only [List.getElem_toArray, List.getElem_cons_zero, List.getElem_cons_succ, Act.put, List.setIfInBounds_toArray, List.set_cons_zero, List.set_cons_succ])
  refine wpAnyH_take (i := 10) (v := ?_) rfl (by kernel_rfl) (by kernel_rfl) (by kernel_rfl) (fun _ _ _ h => h) (Or.inl ⟨by rfl, ?_⟩) (by assumption) ?_
  rotate_left
  · intro wS hSw
    (have a0 := cellM hSw 0 rfl; have a1 := cellM hSw 1 rfl; clear hSw)
    go_simp
    all_goals with_reducible rfl
  (try simp only [List.getElem_toArray, List.getElem_cons_zero, List.getElem_cons_succ, Act.put, List.setIfInBounds_toArray, List.set_cons_zero, List.set_cons_succ])
  refine wpAnyH_take (i := 11) (v := ?_) rfl (by kernel_rfl) (by kernel_rfl) (by kernel_rfl) (fun _ _ _ h => h) (Or.inl ⟨by rfl, ?_⟩) (by assumption) ?_
  rotate_left
  · intro wS hSw
    (have a0 := cellM hSw 0 rfl; have a1 := cellM hSw 1 rfl; clear hSw)
    go_simp
    all_goals with_reducible rfl
  (try simp only [List.getElem_toArray, List.getElem_cons_zero, List.getElem_cons_succ, Act.put, List.setIfInBounds_toArray, List.set_cons_zero, List.set_cons_succ])
  refine wpAnyH_ready (rs := [2, 7]) (by kernel_rfl) (by simp) (AllReadyH.cons rfl (fun K hK => ?_) (AllReadyH.cons rfl (fun K hK => ?_) AllReadyH.nil))
  · have HYs : Hid (Below w.heap.size w Y ∧ Y.heap[w.heap.size]? = some (mirO regs A n cap) ∧ Y.heap[w.heap.size + 1]? = some (.cells #[.int .i64 0, .slice none 0 0] 24) ∧ w.heap.size + 2 ≤ Y.heap.size ∧ True) := Lib.hid ⟨HY.out.1, HY.out.2.1, HY.out.2.2.1, HY.out.2.2.2, trivial⟩
    clear HY
    go_simp
    have hba := lboxM Y (.cells #[] 59)
    refine hK.out _ _ (keepM HYs.out.2.1 hba) (fun hHa => ?_)
    have Ha := Lib.hid (And.intro (onM HYs.out.1 hba) (And.intro (keepM HYs.out.2.1 hba) (And.intro (keepM HYs.out.2.2.1 hba) (And.intro (Nat.le_trans HYs.out.2.2.2.1 hba.size) (show (Y.alloc (.cells #[] 59)).rowIs Y.heap.size 59 (0 * 7) (fun _ => undef) from World.rowIs_alloc Y #[] 59 (fun _ => undef) (fun i hi => absurd hi (by simp)))))))
    have HBa := Lib.hid hba
    clear hK K hHeld hba
    (try simp only [Act.put, List.setIfInBounds_toArray, List.set_cons_zero, List.set_cons_succ, List.getElem_toArray, List.getElem_cons_zero, List.getElem_cons_succ])
    generalize Y.alloc (.cells #[] 59) = Ya at Ha HBa hHa ⊢
    refine wpAnyH_ready (rs := [5, 7]) (by kernel_rfl) (by simp) (AllReadyH.cons rfl (fun K hK => ?_) (AllReadyH.cons rfl (fun K hK => ?_) AllReadyH.nil))

    · rw [if_pos (by kernel_rfl)]
      refine oper_append_rowsM (.tmp 5) (.tmp 7) 22 rfl 59 (.agg #[.int .i64 0, .int .i64 0, .int .i64 0, .int .i64 0, .int .u32 0, .int .i64 0, .int .i64 0]) 7 56 Tryd.underlying22 info_irM rfl (by decide) (Y.heap.size) 0 0 (fun _ => undef) rfl Ha.out.2.2.2.2 (Nat.le_refl _) (by decide) A n cap (irF q) rfl (Holds.below (holds_of_ir HI.out) Ha.out.1) (irF_one q) (by unfold maxLen; omega) (by omega) ?_
      intro g1 cap1 F1 Vc hr1 hc1 hm1 _ hF1 hg1 hgg1
      simp only [Nat.zero_add, Nat.zero_mul] at hc1 hF1
      have hle1 : w.heap.size + 2 ≤ Y.heap.size := HYs.out.2.2.2.1
      have hge1 : w.heap.size + 2 ≤ g1 := by
        have := Ha.out.2.2.2.1
        rcases hgg1 with e | e <;> omega
      have hbx : Vc.heap[w.heap.size]? = some (mirO regs A n cap) := (hg1.block _ (Array.getElem?_eq_some_iff.1 Ha.out.2.1).1 (fun e => by injection e with e; omega)).trans Ha.out.2.1
      have hrx : Vc.heap[w.heap.size + 1]? = some (.cells #[.int .i64 0, .slice none 0 0] 24) := (hg1.block _ (Array.getElem?_eq_some_iff.1 Ha.out.2.2.1).1 (fun e => by injection e with e; omega)).trans Ha.out.2.2.1
      have hbel : Below w.heap.size w Vc := below_grown Ha.out.1 hg1 (by omega) (Nat.le_refl _)
      refine hK.out _ _ hbx (fun hHc => ?_)
      have Hc := Lib.hid (show Below w.heap.size w Vc ∧ Vc.heap[w.heap.size]? = some (mirO regs A n cap) ∧ Vc.heap[w.heap.size + 1]? = some (.cells #[.int .i64 0, .slice none 0 0] 24) ∧ w.heap.size + 2 ≤ Vc.heap.size ∧ Vc.rowIs g1 59 (cap1 * 7) F1 from ⟨hbel, hbx, hrx, Nat.le_trans Ha.out.2.2.2.1 hg1.size, hr1⟩)
      have HF := Lib.hid hF1
      clear hK K hbel hbx hrx hr1 hF1 hg1 hgg1 hHa Ha HBa HYs
      (try simp only [Act.put, List.setIfInBounds_toArray, List.set_cons_zero, List.set_cons_succ, List.getElem_toArray, List.getElem_cons_zero, List.getElem_cons_succ])
      refine held_one (i := 7) (by kernel_rfl) rfl (fun K hK => ?_)
      go_simp
      have hbd := lboxM Vc markO
      refine hK.out _ _ (keepM Hc.out.2.1 hbd) (fun hHd => ?_)
      have Hd := Lib.hid (And.intro (onM Hc.out.1 hbd) (And.intro (keepM Hc.out.2.1 hbd) (And.intro (keepM Hc.out.2.2.1 hbd) (And.intro (Nat.le_trans Hc.out.2.2.2.1 hbd.size) (mark_made Vc)))))
      have HBd := Lib.hid hbd
      clear hK K hHc hbd
      (try simp only [Act.put, List.setIfInBounds_toArray, List.set_cons_zero, List.set_cons_succ, List.getElem_toArray, List.getElem_cons_zero, List.getElem_cons_succ])
      have HT := Lib.hid (show Below w.heap.size w (Vc.alloc markO) ∧ (Vc.alloc markO).heap[w.heap.size]? = some (mirO regs A n cap) ∧ (Vc.alloc markO).heap[w.heap.size + 1]? = some (.cells #[.int .i64 0, .slice none 0 0] 24) ∧ (w.heap.size + 2 ≤ (Vc.alloc markO).heap.size ∧ w.heap.size + 2 ≤ g1) ∧ (Vc.alloc markO).rowIs g1 59 (cap1 * 7) F1 ∧ Holds (Vc.alloc markO) (some ⟨Vc.heap.size, 0, none⟩) (1 * 7) (irF fun _ => markI) from ⟨Hd.out.1, Hd.out.2.1, Hd.out.2.2.1, ⟨Hd.out.2.2.2.1, hge1⟩, rowIs_below Hc.out.2.2.2.2 HBd.out Hc.out.2.2.2.2.lt, Hd.out.2.2.2.2⟩)
      clear Hc Hd HBd
      generalize Vc.alloc (.cells #[.int .i64 77, .int .i64 0, .int .i64 0, .int .i64 0, .int .u32 0, .int .i64 0, .int .i64 0] 59) = Vt at HT hHd ⊢
      generalize Vc.heap.size = gm at HT ⊢
      have hHt := hHd
      clear hHd
      (try rw [Nat.zero_add])
      refine held_one (i := 8) (by kernel_rfl) rfl (fun K hK => ?_)
      rw [if_pos (by kernel_rfl)]
      refine oper_append_rowsM (.tmp 8) (.tmp 10) 22 rfl 59 (.agg #[.int .i64 0, .int .i64 0, .int .i64 0, .int .i64 0, .int .u32 0, .int .i64 0, .int .i64 0]) 7 56 Tryd.underlying22 info_irM rfl (by decide) g1 n cap1 F1 rfl HT.out.2.2.2.2.1 hc1 hm1 (some ⟨gm, 0, none⟩) 1 1 (irF fun _ => markI) rfl HT.out.2.2.2.2.2 (irF_one _) (by unfold maxLen; omega) (by omega) ?_
      intro g2 cap2 F2 V2 hr2 hc2 hm2 hF2 hG2 hg2 hgg2
      have hlt := HT.out.2.2.2.1.1
      have hlg := HT.out.2.2.2.1.2
      have hge2 : w.heap.size + 2 ≤ g2 := by
        have := HT.out.2.2.2.2.1.lt
        rcases hgg2 with e | e <;> omega
      have hbx2 : V2.heap[w.heap.size]? = some (mirO regs A n cap) := (hg2.block _ (Array.getElem?_eq_some_iff.1 HT.out.2.1).1 (fun e => by injection e with e; omega)).trans HT.out.2.1
      have hrx2 : V2.heap[w.heap.size + 1]? = some (.cells #[.int .i64 0, .slice none 0 0] 24) := (hg2.block _ (Array.getElem?_eq_some_iff.1 HT.out.2.2.1).1 (fun e => by injection e with e; omega)).trans HT.out.2.2.1
      have hbel2 : Below w.heap.size w V2 := below_grown HT.out.1 hg2 (by omega) (Nat.le_refl _)
      refine hK.out _ _ hbx2 (fun hHz => ?_)
      have HZ := Lib.hid (And.intro hbel2 (And.intro hrx2 (And.intro hr2 (And.intro (fun k (hk : k < n * 7) => (hF2 k hk).trans (HF.out k hk)) (show F2 (n * 7) = .int .i64 77 from (hG2 0 (by decide)).trans rfl)))))
      have HS2 := Lib.hid hbx2
      clear hK K hbel2 hbx2 hr2 hF2 hG2 hg2 hgg2 HT HF hHt
      have hs1 : n ≤ cap2 := by omega
      have hs2 : (n : Int) ≤ (cap2 : Int) := by omega
      have hs3 : ¬ cap2 = 0 := by omega
      (try simp only [Act.put, List.setIfInBounds_toArray, List.set_cons_zero, List.set_cons_succ, List.getElem_toArray, List.getElem_cons_zero, List.getElem_cons_succ])
      refine wpAnyH_take (i := 12) (v := ?_) rfl (by kernel_rfl) (by kernel_rfl) (by kernel_rfl) (fun _ _ _ h => h) (Or.inl ⟨by rfl, ?_⟩) (by assumption) ?_
      rotate_left
      · intro wS hSw
        (skip)
        go_simp
        all_goals with_reducible rfl
      (try simp only [List.getElem_toArray, List.getElem_cons_zero, List.getElem_cons_succ, Act.put, List.setIfInBounds_toArray, List.set_cons_zero, List.set_cons_succ])
      refine wpAnyH_take (i := 13) (v := ?_) rfl (by kernel_rfl) (by kernel_rfl) (by kernel_rfl) (fun _ _ _ h => h) (Or.inl ⟨by rfl, ?_⟩) (by assumption) ?_
      rotate_left
      · intro wS hSw
        (skip)
        go_simp
        all_goals with_reducible rfl
      (try simp only [List.getElem_toArray, List.getElem_cons_zero, List.getElem_cons_succ, Act.put, List.setIfInBounds_toArray, List.set_cons_zero, List.set_cons_succ])
      have r0 : V2.cell? ⟨w.heap.size + 1, 0, none⟩ = some (.int .i64 0) := cellM hrx2 0 rfl
      have r1 : V2.cell? ⟨w.heap.size + 1, 1, none⟩ = some (.slice none 0 0) := cellM hrx2 1 rfl
      have f0 : V2.frozen? ⟨w.heap.size + 1, 0, none⟩ = false := by unfold World.frozen?; rw [hrx2]; simp
      have f1 : V2.frozen? ⟨w.heap.size + 1, 1, none⟩ = false := by unfold World.frozen?; rw [hrx2]; simp
      clear hrx2
      refine held_one (i := 14) (by kernel_rfl) rfl (fun K hK => ?_)
      go_simp
      refine hK.out _ _ ?_ (fun hHy => ?_)
      · exact (Below.heap_setCell _ ⟨w.heap.size + 1, 1, none⟩ _ _ (by simp)).trans ((Below.heap_setCell _ ⟨w.heap.size + 1, 0, none⟩ _ _ (by simp)).trans HS2.out)
      clear hK K hHz hHy HS2
      (try simp only [Act.put, List.setIfInBounds_toArray, List.set_cons_zero, List.set_cons_succ, List.getElem_toArray, List.getElem_cons_zero, List.getElem_cons_succ])
      refine wpAnyH_done (by kernel_rfl) ?_ _
      go_wp2
      (try simp only [Exit.inBlock, Exit.then])
      have hset : ((V2.setCell ⟨w.heap.size + 1, 0, none⟩ (.int .i64 regs)).setCell ⟨w.heap.size + 1, 1, none⟩ (.slice (some ⟨g2, 0, none⟩) n cap2)).heap[w.heap.size + 1]? = some (.cells #[.int .i64 regs, .slice (some ⟨g2, 0, none⟩) n cap2] 24) := by
        unfold World.setCell
        simp only [Array.getElem?_modify, if_true, HZ.out.2.1]
        rfl
      have c0 := cellM hset 0 rfl
      have c1 := cellM hset 1 rfl
      refine bodyPost_ret (v := mirV regs (some ⟨g2, 0, none⟩) n cap2) (by simp [results, Tryd.results8, go_sem, c0, c1]) rfl ⟨g2, cap2, rfl, F2, ?_, by omega, hm2, HZ.out.2.2.2.1, HZ.out.2.2.2.2, ?_, by omega⟩
      · exact (HZ.out.2.2.1.of_block (Below.heap_setCell _ ⟨w.heap.size + 1, 0, none⟩ _ _ (show g2 ≠ w.heap.size + 1 by omega))).of_block (Below.heap_setCell _ ⟨w.heap.size + 1, 1, none⟩ _ _ (show g2 ≠ w.heap.size + 1 by omega))
      · exact (HZ.out.1.setCell (p := ⟨w.heap.size + 1, 0, none⟩) (by simp) _).setCell (p := ⟨w.heap.size + 1, 1, none⟩) (by simp) _

    · go_simp
      have hbb := lboxM Ya markO
      refine hK.out _ _ (keepM Ha.out.2.1 hbb) (fun hHb => ?_)
      have Hb := Lib.hid (And.intro (onM Ha.out.1 hbb) (And.intro (keepM Ha.out.2.1 hbb) (And.intro (keepM Ha.out.2.2.1 hbb) (And.intro (Nat.le_trans Ha.out.2.2.2.1 hbb.size) (mark_made Ya)))))
      have HBb := Lib.hid hbb
      clear hK K hHa hbb
      (try simp only [Act.put, List.setIfInBounds_toArray, List.set_cons_zero, List.set_cons_succ, List.getElem_toArray, List.getElem_cons_zero, List.getElem_cons_succ])
      have Hb' := Lib.hid (And.intro Hb.out.1 (And.intro Hb.out.2.1 (And.intro Hb.out.2.2.1 (And.intro Hb.out.2.2.2.1 (And.intro (rowIs_below Ha.out.2.2.2.2 HBb.out Ha.out.2.2.2.2.lt) (And.intro Hb.out.2.2.2.2 (show Ya.heap.size < (Ya.alloc markO).heap.size by simp)))))))
      have hya : Y.heap.size < Ya.heap.size := Ha.out.2.2.2.2.lt
      clear Ha Hb HBb HBa
      generalize Ya.alloc (.cells #[.int .i64 77, .int .i64 0, .int .i64 0, .int .i64 0, .int .u32 0, .int .i64 0, .int .i64 0] 59) = Yb at Hb' hHb ⊢
      generalize Ya.heap.size = gm at Hb' hya ⊢
      refine held_one (i := 5) (by kernel_rfl) rfl (fun K hK => ?_)
      rw [if_pos (by kernel_rfl)]
      refine oper_append_rowsM (.tmp 5) (.tmp 7) 22 rfl 59 (.agg #[.int .i64 0, .int .i64 0, .int .i64 0, .int .i64 0, .int .u32 0, .int .i64 0, .int .i64 0]) 7 56 Tryd.underlying22 info_irM rfl (by decide) (Y.heap.size) 0 0 (fun _ => undef) rfl Hb'.out.2.2.2.2.1 (Nat.le_refl _) (by decide) A n cap (irF q) rfl (Holds.below (holds_of_ir HI.out) Hb'.out.1) (irF_one q) (by unfold maxLen; omega) (by omega) ?_
      intro g1 cap1 F1 Vc hr1 hc1 hm1 _ hF1 hg1 hgg1
      simp only [Nat.zero_add, Nat.zero_mul] at hc1 hF1
      have hle1 : w.heap.size + 2 ≤ Y.heap.size := HYs.out.2.2.2.1
      have hge1 : w.heap.size + 2 ≤ g1 := by
        have := Hb'.out.2.2.2.1
        rcases hgg1 with e | e <;> omega
      have hbx : Vc.heap[w.heap.size]? = some (mirO regs A n cap) := (hg1.block _ (Array.getElem?_eq_some_iff.1 Hb'.out.2.1).1 (fun e => by injection e with e; omega)).trans Hb'.out.2.1
      have hrx : Vc.heap[w.heap.size + 1]? = some (.cells #[.int .i64 0, .slice none 0 0] 24) := (hg1.block _ (Array.getElem?_eq_some_iff.1 Hb'.out.2.2.1).1 (fun e => by injection e with e; omega)).trans Hb'.out.2.2.1
      have hbel : Below w.heap.size w Vc := below_grown Hb'.out.1 hg1 (by omega) (Nat.le_refl _)
      refine hK.out _ _ hbx (fun hHc => ?_)
      have HT := Lib.hid (show Below w.heap.size w Vc ∧ Vc.heap[w.heap.size]? = some (mirO regs A n cap) ∧ Vc.heap[w.heap.size + 1]? = some (.cells #[.int .i64 0, .slice none 0 0] 24) ∧ (w.heap.size + 2 ≤ Vc.heap.size ∧ w.heap.size + 2 ≤ g1) ∧ Vc.rowIs g1 59 (cap1 * 7) F1 ∧ Holds Vc (some ⟨gm, 0, none⟩) (1 * 7) (irF fun _ => markI) from ⟨hbel, hbx, hrx, ⟨Nat.le_trans Hb'.out.2.2.2.1 hg1.size, hge1⟩, hr1, Hb'.out.2.2.2.2.2.1.grown hg1 (fun ad e => by injection e with e; subst e; intro k; injection k with k; exact absurd (show gm = Y.heap.size from k) (by omega))⟩)
      have HF := Lib.hid hF1
      clear hK K hbel hbx hrx hr1 hF1 hg1 hgg1 Hb' hHb
      (try simp only [Act.put, List.setIfInBounds_toArray, List.set_cons_zero, List.set_cons_succ, List.getElem_toArray, List.getElem_cons_zero, List.getElem_cons_succ])
      generalize Vc = Vt at HT hHc ⊢
      have hHt := hHc
      clear hHc
      (try rw [Nat.zero_add])
      refine held_one (i := 8) (by kernel_rfl) rfl (fun K hK => ?_)
      rw [if_pos (by kernel_rfl)]
      refine oper_append_rowsM (.tmp 8) (.tmp 10) 22 rfl 59 (.agg #[.int .i64 0, .int .i64 0, .int .i64 0, .int .i64 0, .int .u32 0, .int .i64 0, .int .i64 0]) 7 56 Tryd.underlying22 info_irM rfl (by decide) g1 n cap1 F1 rfl HT.out.2.2.2.2.1 hc1 hm1 (some ⟨gm, 0, none⟩) 1 1 (irF fun _ => markI) rfl HT.out.2.2.2.2.2 (irF_one _) (by unfold maxLen; omega) (by omega) ?_
      intro g2 cap2 F2 V2 hr2 hc2 hm2 hF2 hG2 hg2 hgg2
      have hlt := HT.out.2.2.2.1.1
      have hlg := HT.out.2.2.2.1.2
      have hge2 : w.heap.size + 2 ≤ g2 := by
        have := HT.out.2.2.2.2.1.lt
        rcases hgg2 with e | e <;> omega
      have hbx2 : V2.heap[w.heap.size]? = some (mirO regs A n cap) := (hg2.block _ (Array.getElem?_eq_some_iff.1 HT.out.2.1).1 (fun e => by injection e with e; omega)).trans HT.out.2.1
      have hrx2 : V2.heap[w.heap.size + 1]? = some (.cells #[.int .i64 0, .slice none 0 0] 24) := (hg2.block _ (Array.getElem?_eq_some_iff.1 HT.out.2.2.1).1 (fun e => by injection e with e; omega)).trans HT.out.2.2.1
      have hbel2 : Below w.heap.size w V2 := below_grown HT.out.1 hg2 (by omega) (Nat.le_refl _)
      refine hK.out _ _ hbx2 (fun hHz => ?_)
      have HZ := Lib.hid (And.intro hbel2 (And.intro hrx2 (And.intro hr2 (And.intro (fun k (hk : k < n * 7) => (hF2 k hk).trans (HF.out k hk)) (show F2 (n * 7) = .int .i64 77 from (hG2 0 (by decide)).trans rfl)))))
      have HS2 := Lib.hid hbx2
      clear hK K hbel2 hbx2 hr2 hF2 hG2 hg2 hgg2 HT HF hHt
      have hs1 : n ≤ cap2 := by omega
      have hs2 : (n : Int) ≤ (cap2 : Int) := by omega
      have hs3 : ¬ cap2 = 0 := by omega
      (try simp only [Act.put, List.setIfInBounds_toArray, List.set_cons_zero, List.set_cons_succ, List.getElem_toArray, List.getElem_cons_zero, List.getElem_cons_succ])
      refine wpAnyH_take (i := 12) (v := ?_) rfl (by kernel_rfl) (by kernel_rfl) (by kernel_rfl) (fun _ _ _ h => h) (Or.inl ⟨by rfl, ?_⟩) (by assumption) ?_
      rotate_left
      · intro wS hSw
        (skip)
        go_simp
        all_goals with_reducible rfl
      (try simp only [List.getElem_toArray, List.getElem_cons_zero, List.getElem_cons_succ, Act.put, List.setIfInBounds_toArray, List.set_cons_zero, List.set_cons_succ])
      refine wpAnyH_take (i := 13) (v := ?_) rfl (by kernel_rfl) (by kernel_rfl) (by kernel_rfl) (fun _ _ _ h => h) (Or.inl ⟨by rfl, ?_⟩) (by assumption) ?_
      rotate_left
      · intro wS hSw
        (skip)
        go_simp
        all_goals with_reducible rfl
      (try simp only [List.getElem_toArray, List.getElem_cons_zero, List.getElem_cons_succ, Act.put, List.setIfInBounds_toArray, List.set_cons_zero, List.set_cons_succ])
      have r0 : V2.cell? ⟨w.heap.size + 1, 0, none⟩ = some (.int .i64 0) := cellM hrx2 0 rfl
      have r1 : V2.cell? ⟨w.heap.size + 1, 1, none⟩ = some (.slice none 0 0) := cellM hrx2 1 rfl
      have f0 : V2.frozen? ⟨w.heap.size + 1, 0, none⟩ = false := by unfold World.frozen?; rw [hrx2]; simp
      have f1 : V2.frozen? ⟨w.heap.size + 1, 1, none⟩ = false := by unfold World.frozen?; rw [hrx2]; simp
      clear hrx2
      refine held_one (i := 14) (by kernel_rfl) rfl (fun K hK => ?_)
      go_simp
      refine hK.out _ _ ?_ (fun hHy => ?_)
      · exact (Below.heap_setCell _ ⟨w.heap.size + 1, 1, none⟩ _ _ (by simp)).trans ((Below.heap_setCell _ ⟨w.heap.size + 1, 0, none⟩ _ _ (by simp)).trans HS2.out)
      clear hK K hHz hHy HS2
      (try simp only [Act.put, List.setIfInBounds_toArray, List.set_cons_zero, List.set_cons_succ, List.getElem_toArray, List.getElem_cons_zero, List.getElem_cons_succ])
      refine wpAnyH_done (by kernel_rfl) ?_ _
      go_wp2
      (try simp only [Exit.inBlock, Exit.then])
      have hset : ((V2.setCell ⟨w.heap.size + 1, 0, none⟩ (.int .i64 regs)).setCell ⟨w.heap.size + 1, 1, none⟩ (.slice (some ⟨g2, 0, none⟩) n cap2)).heap[w.heap.size + 1]? = some (.cells #[.int .i64 regs, .slice (some ⟨g2, 0, none⟩) n cap2] 24) := by
        unfold World.setCell
        simp only [Array.getElem?_modify, if_true, HZ.out.2.1]
        rfl
      have c0 := cellM hset 0 rfl
      have c1 := cellM hset 1 rfl
      refine bodyPost_ret (v := mirV regs (some ⟨g2, 0, none⟩) n cap2) (by simp [results, Tryd.results8, go_sem, c0, c1]) rfl ⟨g2, cap2, rfl, F2, ?_, by omega, hm2, HZ.out.2.2.2.1, HZ.out.2.2.2.2, ?_, by omega⟩
      · exact (HZ.out.2.2.1.of_block (Below.heap_setCell _ ⟨w.heap.size + 1, 0, none⟩ _ _ (show g2 ≠ w.heap.size + 1 by omega))).of_block (Below.heap_setCell _ ⟨w.heap.size + 1, 1, none⟩ _ _ (show g2 ≠ w.heap.size + 1 by omega))
      · exact (HZ.out.1.setCell (p := ⟨w.heap.size + 1, 0, none⟩) (by simp) _).setCell (p := ⟨w.heap.size + 1, 1, none⟩) (by simp) _

  · have HYs : Hid (Below w.heap.size w Y ∧ Y.heap[w.heap.size]? = some (mirO regs A n cap) ∧ Y.heap[w.heap.size + 1]? = some (.cells #[.int .i64 0, .slice none 0 0] 24) ∧ w.heap.size + 2 ≤ Y.heap.size ∧ True) := Lib.hid ⟨HY.out.1, HY.out.2.1, HY.out.2.2.1, HY.out.2.2.2, trivial⟩
    clear HY
    go_simp
    have hbb := lboxM Y markO
    refine hK.out _ _ (keepM HYs.out.2.1 hbb) (fun hHb => ?_)
    have Hb := Lib.hid (And.intro (onM HYs.out.1 hbb) (And.intro (keepM HYs.out.2.1 hbb) (And.intro (keepM HYs.out.2.2.1 hbb) (And.intro (Nat.le_trans HYs.out.2.2.2.1 hbb.size) (mark_made Y)))))
    have HBb := Lib.hid hbb
    clear hK K hHeld hbb
    (try simp only [Act.put, List.setIfInBounds_toArray, List.set_cons_zero, List.set_cons_succ, List.getElem_toArray, List.getElem_cons_zero, List.getElem_cons_succ])
    generalize hYb : Y.alloc (.cells #[.int .i64 77, .int .i64 0, .int .i64 0, .int .i64 0, .int .u32 0, .int .i64 0, .int .i64 0] 59) = Yb at Hb HBb hHb ⊢
    have hyb : Y.heap.size < Yb.heap.size := by rw [← hYb]; simp
    clear hYb HYs HBb
    generalize Y.heap.size = gm at Hb hyb ⊢
    refine held_one (i := 2) (by kernel_rfl) rfl (fun K hK => ?_)
    go_simp
    have hba := lboxM Yb (.cells #[] 59)
    refine hK.out _ _ (keepM Hb.out.2.1 hba) (fun hHa => ?_)
    have Ha := Lib.hid (And.intro (onM Hb.out.1 hba) (And.intro (keepM Hb.out.2.1 hba) (And.intro (keepM Hb.out.2.2.1 hba) (And.intro (Nat.le_trans Hb.out.2.2.2.1 hba.size) (show (Yb.alloc (.cells #[] 59)).rowIs Yb.heap.size 59 (0 * 7) (fun _ => undef) from World.rowIs_alloc Yb #[] 59 (fun _ => undef) (fun i hi => absurd hi (by simp)))))))
    have HBa := Lib.hid hba
    clear hK K hHb hba
    (try simp only [Act.put, List.setIfInBounds_toArray, List.set_cons_zero, List.set_cons_succ, List.getElem_toArray, List.getElem_cons_zero, List.getElem_cons_succ])
    have Hb' := Lib.hid (And.intro Ha.out.1 (And.intro Ha.out.2.1 (And.intro Ha.out.2.2.1 (And.intro Ha.out.2.2.2.1 (And.intro Ha.out.2.2.2.2 (Hb.out.2.2.2.2.below HBa.out))))))
    have hle0 := Hb.out.2.2.2.1
    clear Ha Hb HBa
    generalize Yb.alloc (.cells #[] 59) = Ya at Hb' hHa ⊢
    generalize Yb.heap.size = ge at Hb' hyb hle0 ⊢
    refine held_one (i := 5) (by kernel_rfl) rfl (fun K hK => ?_)
    rw [if_pos (by kernel_rfl)]
    refine oper_append_rowsM (.tmp 5) (.tmp 7) 22 rfl 59 (.agg #[.int .i64 0, .int .i64 0, .int .i64 0, .int .i64 0, .int .u32 0, .int .i64 0, .int .i64 0]) 7 56 Tryd.underlying22 info_irM rfl (by decide) (ge) 0 0 (fun _ => undef) rfl Hb'.out.2.2.2.2.1 (Nat.le_refl _) (by decide) A n cap (irF q) rfl (Holds.below (holds_of_ir HI.out) Hb'.out.1) (irF_one q) (by unfold maxLen; omega) (by omega) ?_
    intro g1 cap1 F1 Vc hr1 hc1 hm1 _ hF1 hg1 hgg1
    simp only [Nat.zero_add, Nat.zero_mul] at hc1 hF1
    have hle1 : w.heap.size + 2 ≤ ge := hle0
    have hge1 : w.heap.size + 2 ≤ g1 := by
      have := Hb'.out.2.2.2.1
      rcases hgg1 with e | e <;> omega
    have hbx : Vc.heap[w.heap.size]? = some (mirO regs A n cap) := (hg1.block _ (Array.getElem?_eq_some_iff.1 Hb'.out.2.1).1 (fun e => by injection e with e; omega)).trans Hb'.out.2.1
    have hrx : Vc.heap[w.heap.size + 1]? = some (.cells #[.int .i64 0, .slice none 0 0] 24) := (hg1.block _ (Array.getElem?_eq_some_iff.1 Hb'.out.2.2.1).1 (fun e => by injection e with e; omega)).trans Hb'.out.2.2.1
    have hbel : Below w.heap.size w Vc := below_grown Hb'.out.1 hg1 (by omega) (Nat.le_refl _)
    refine hK.out _ _ hbx (fun hHc => ?_)
    have HT := Lib.hid (show Below w.heap.size w Vc ∧ Vc.heap[w.heap.size]? = some (mirO regs A n cap) ∧ Vc.heap[w.heap.size + 1]? = some (.cells #[.int .i64 0, .slice none 0 0] 24) ∧ (w.heap.size + 2 ≤ Vc.heap.size ∧ w.heap.size + 2 ≤ g1) ∧ Vc.rowIs g1 59 (cap1 * 7) F1 ∧ Holds Vc (some ⟨gm, 0, none⟩) (1 * 7) (irF fun _ => markI) from ⟨hbel, hbx, hrx, ⟨Nat.le_trans Hb'.out.2.2.2.1 hg1.size, hge1⟩, hr1, Hb'.out.2.2.2.2.2.grown hg1 (fun ad e => by injection e with e; subst e; intro k; injection k with k; exact absurd (show gm = ge from k) (by omega))⟩)
    have HF := Lib.hid hF1
    clear hK K hbel hbx hrx hr1 hF1 hg1 hgg1 Hb' hHa
    (try simp only [Act.put, List.setIfInBounds_toArray, List.set_cons_zero, List.set_cons_succ, List.getElem_toArray, List.getElem_cons_zero, List.getElem_cons_succ])
    generalize Vc = Vt at HT hHc ⊢
    have hHt := hHc
    clear hHc
    (try rw [Nat.zero_add])
    refine held_one (i := 8) (by kernel_rfl) rfl (fun K hK => ?_)
    rw [if_pos (by kernel_rfl)]
    refine oper_append_rowsM (.tmp 8) (.tmp 10) 22 rfl 59 (.agg #[.int .i64 0, .int .i64 0, .int .i64 0, .int .i64 0, .int .u32 0, .int .i64 0, .int .i64 0]) 7 56 Tryd.underlying22 info_irM rfl (by decide) g1 n cap1 F1 rfl HT.out.2.2.2.2.1 hc1 hm1 (some ⟨gm, 0, none⟩) 1 1 (irF fun _ => markI) rfl HT.out.2.2.2.2.2 (irF_one _) (by unfold maxLen; omega) (by omega) ?_
    intro g2 cap2 F2 V2 hr2 hc2 hm2 hF2 hG2 hg2 hgg2
    have hlt := HT.out.2.2.2.1.1
    have hlg := HT.out.2.2.2.1.2
    have hge2 : w.heap.size + 2 ≤ g2 := by
      have := HT.out.2.2.2.2.1.lt
      rcases hgg2 with e | e <;> omega
    have hbx2 : V2.heap[w.heap.size]? = some (mirO regs A n cap) := (hg2.block _ (Array.getElem?_eq_some_iff.1 HT.out.2.1).1 (fun e => by injection e with e; omega)).trans HT.out.2.1
    have hrx2 : V2.heap[w.heap.size + 1]? = some (.cells #[.int .i64 0, .slice none 0 0] 24) := (hg2.block _ (Array.getElem?_eq_some_iff.1 HT.out.2.2.1).1 (fun e => by injection e with e; omega)).trans HT.out.2.2.1
    have hbel2 : Below w.heap.size w V2 := below_grown HT.out.1 hg2 (by omega) (Nat.le_refl _)
    refine hK.out _ _ hbx2 (fun hHz => ?_)
    have HZ := Lib.hid (And.intro hbel2 (And.intro hrx2 (And.intro hr2 (And.intro (fun k (hk : k < n * 7) => (hF2 k hk).trans (HF.out k hk)) (show F2 (n * 7) = .int .i64 77 from (hG2 0 (by decide)).trans rfl)))))
    have HS2 := Lib.hid hbx2
    clear hK K hbel2 hbx2 hr2 hF2 hG2 hg2 hgg2 HT HF hHt
    have hs1 : n ≤ cap2 := by omega
    have hs2 : (n : Int) ≤ (cap2 : Int) := by omega
    have hs3 : ¬ cap2 = 0 := by omega
    (try simp only [Act.put, List.setIfInBounds_toArray, List.set_cons_zero, List.set_cons_succ, List.getElem_toArray, List.getElem_cons_zero, List.getElem_cons_succ])
    refine wpAnyH_take (i := 12) (v := ?_) rfl (by kernel_rfl) (by kernel_rfl) (by kernel_rfl) (fun _ _ _ h => h) (Or.inl ⟨by rfl, ?_⟩) (by assumption) ?_
    rotate_left
    · intro wS hSw
      (skip)
      go_simp
      all_goals with_reducible rfl
    (try simp only [List.getElem_toArray, List.getElem_cons_zero, List.getElem_cons_succ, Act.put, List.setIfInBounds_toArray, List.set_cons_zero, List.set_cons_succ])
    refine wpAnyH_take (i := 13) (v := ?_) rfl (by kernel_rfl) (by kernel_rfl) (by kernel_rfl) (fun _ _ _ h => h) (Or.inl ⟨by rfl, ?_⟩) (by assumption) ?_
    rotate_left
    · intro wS hSw
      (skip)
      go_simp
      all_goals with_reducible rfl
    (try simp only [List.getElem_toArray, List.getElem_cons_zero, List.getElem_cons_succ, Act.put, List.setIfInBounds_toArray, List.set_cons_zero, List.set_cons_succ])
    have r0 : V2.cell? ⟨w.heap.size + 1, 0, none⟩ = some (.int .i64 0) := cellM hrx2 0 rfl
    have r1 : V2.cell? ⟨w.heap.size + 1, 1, none⟩ = some (.slice none 0 0) := cellM hrx2 1 rfl
    have f0 : V2.frozen? ⟨w.heap.size + 1, 0, none⟩ = false := by unfold World.frozen?; rw [hrx2]; simp
    have f1 : V2.frozen? ⟨w.heap.size + 1, 1, none⟩ = false := by unfold World.frozen?; rw [hrx2]; simp
    clear hrx2
    refine held_one (i := 14) (by kernel_rfl) rfl (fun K hK => ?_)
    go_simp
    refine hK.out _ _ ?_ (fun hHy => ?_)
    · exact (Below.heap_setCell _ ⟨w.heap.size + 1, 1, none⟩ _ _ (by simp)).trans ((Below.heap_setCell _ ⟨w.heap.size + 1, 0, none⟩ _ _ (by simp)).trans HS2.out)
    clear hK K hHz hHy HS2
    (try simp only [Act.put, List.setIfInBounds_toArray, List.set_cons_zero, List.set_cons_succ, List.getElem_toArray, List.getElem_cons_zero, List.getElem_cons_succ])
    refine wpAnyH_done (by kernel_rfl) ?_ _
    go_wp2
    (try simp only [Exit.inBlock, Exit.then])
    have hset : ((V2.setCell ⟨w.heap.size + 1, 0, none⟩ (.int .i64 regs)).setCell ⟨w.heap.size + 1, 1, none⟩ (.slice (some ⟨g2, 0, none⟩) n cap2)).heap[w.heap.size + 1]? = some (.cells #[.int .i64 regs, .slice (some ⟨g2, 0, none⟩) n cap2] 24) := by
      unfold World.setCell
      simp only [Array.getElem?_modify, if_true, HZ.out.2.1]
      rfl
    have c0 := cellM hset 0 rfl
    have c1 := cellM hset 1 rfl
    refine bodyPost_ret (v := mirV regs (some ⟨g2, 0, none⟩) n cap2) (by simp [results, Tryd.results8, go_sem, c0, c1]) rfl ⟨g2, cap2, rfl, F2, ?_, by omega, hm2, HZ.out.2.2.2.1, HZ.out.2.2.2.2, ?_, by omega⟩
    · exact (HZ.out.2.2.1.of_block (Below.heap_setCell _ ⟨w.heap.size + 1, 0, none⟩ _ _ (show g2 ≠ w.heap.size + 1 by omega))).of_block (Below.heap_setCell _ ⟨w.heap.size + 1, 1, none⟩ _ _ (show g2 ≠ w.heap.size + 1 by omega))
    · exact (HZ.out.1.setCell (p := ⟨w.heap.size + 1, 0, none⟩) (by simp) _).setCell (p := ⟨w.heap.size + 1, 1, none⟩) (by simp) _

theorem neq_irM (x : Irx) (W : World) : (binOp BinOp.neq 59 (irV x) (irV x)).run Tryd.prog W = .ok (.bool false) W := by
  rw [run_neq_struct, show (10000 : Nat) = 9999 + 1 from rfl, run_equalIn_agg W 9999 59 _ _ (by kernel_rfl) (by kernel_rfl)]
  simp only [Program.fieldsOf, Tryd.underlying59]
  go_simp
abbrev FK (w V : World) (regs : Int) (g cap : Nat) (A : Option Addr) (n cap' : Nat) (q : Nat → Irx) : Prop := Below w.heap.size w V ∧ V.heap[w.heap.size]? = some (mirO regs (some ⟨g, 0, none⟩) n cap) ∧ V.heap[w.heap.size + 1]? = some (mirO regs A n cap') ∧ IrAt V (some ⟨g, 0, none⟩) n q ∧ IrAt V A n q
set_option maxHeartbeats 8000000 in
/-- Kept of what was lent and of what it was lent from. -/
theorem kept_M (w : World) (regs : Int) (g cap : Nat) (A : Option Addr) (n cap' : Nat) (q : Nat → Irx) (hn : n * 56 ≤ 140737488351232) (hc : n + 1 ≤ cap) (h : IrAt w (some ⟨g, 0, none⟩) n q) (hm : w.cell? ⟨g, n * 7, none⟩ = some (.int .i64 77)) (hg : g < w.heap.size) (h' : IrAt w A n q) :
    Calls Tryd.prog 12 #[mirV regs (some ⟨g, 0, none⟩) n cap, mirV regs A n cap'] w fun e w' => e = .returned (.bool true) ∧ Below w.heap.size w w' := by
  have HX := Lib.hid (show Below w.heap.size w ((w.alloc (mirO regs (some ⟨g, 0, none⟩) n cap)).alloc (mirO regs A n cap')) ∧ ((w.alloc (mirO regs (some ⟨g, 0, none⟩) n cap)).alloc (mirO regs A n cap')).heap[w.heap.size]? = some (mirO regs (some ⟨g, 0, none⟩) n cap) ∧ ((w.alloc (mirO regs (some ⟨g, 0, none⟩) n cap)).alloc (mirO regs A n cap')).heap[w.heap.size + 1]? = some (mirO regs A n cap') from
    ⟨onM (lboxM w _) (lboxM _ _), kept_allocM (World.alloc_heap_new w _) _, by simpa using World.alloc_heap_new (w.alloc (mirO regs (some ⟨g, 0, none⟩) n cap)) (mirO regs A n cap')⟩)
  have HI := Lib.hid (And.intro (h.below HX.out.1) (h'.below HX.out.1))
  have hmX := (HX.out.1.cell (p := ⟨g, n * 7, none⟩) hg).trans hm
  have HQ := Lib.hid (fun x W => neq_irM x W)
  have hw : IntKind.i64.wrap ((n : Int) + 1) = (n : Int) + 1 := IntWalk.i64_in _ (by omega)
  have hcc : (n : Int) + 1 ≤ (cap : Int) := by omega
  have hcm : n + 1 ≤ cap := hc
  clear h h' hm hg hc
  go_enter Tryd.func12, Tryd.ntmps12
  go_upto_region 1 with fail
  generalize (w.alloc (.cells #[.int .i64 regs, .slice (some ⟨g, 0, none⟩) n cap] 24)).alloc (.cells #[.int .i64 regs, .slice A n cap'] 24) = X at HX HI hmX ⊢
  have i0 := cellM HX.out.2.1 0 rfl
  have i1 := cellM HX.out.2.1 1 rfl
  have j0 := cellM HX.out.2.2 0 rfl
  have j1 := cellM HX.out.2.2 1 rfl
  go_wp2
  go_quiet (fail)
  go_wp2
  clear i0 i1 j0 j1 hmX hcc hcm
  have HZ := Lib.hid (show FK w (X.drewN nq) regs g cap A n cap' q from ⟨below_drawn HX.out.1 nq, HX.out.2.1, HX.out.2.2, HI.out.1, HI.out.2⟩)
  clear HX HI
  generalize X.drewN nq = Z at HZ ⊢
  go_loopw [5] (fun i wr => ∃ k : Nat, k ≤ n ∧ i = .int .i64 (k : Int) ∧ FK w wr regs g cap A n cap' q) (fun i _ => n - (intOf i).toNat)
  case atStart => exact ⟨0, Nat.zero_le _, rfl, HZ.out⟩
  case round =>
    obtain ⟨k, hk, rfl, hF⟩ := hrel
    clear HZ
    have HF := Lib.hid hF
    have i0 := cellM hF.2.1 0 rfl
    have i1 := cellM hF.2.1 1 rfl
    have j0 := cellM hF.2.2.1 0 rfl
    have j1 := cellM hF.2.2.1 1 rfl
    by_cases hlt : k < n
    · have hlt' : (k : Int) < (n : Int) := by omega
      obtain ⟨b1, o1, e1, l1, c0, c1, c2, c3, c4, c5, c6⟩ := ir_at hF.2.2.2.1 hlt
      injection e1 with e1
      injection e1 with e1 e2 _
      subst e1 e2
      simp only [Nat.zero_add] at c0 c1 c2 c3 c4 c5 c6
      obtain ⟨b2, o2, rfl, l2, d0, d1, d2, d3, d4, d5, d6⟩ := ir_at hF.2.2.2.2 hlt
      have hq : ∀ W, (binOp BinOp.neq 59 (irV (q k)) (irV (q k))).run Tryd.prog W = .ok (.bool false) W := HQ.out (q k)
      clear hF
      generalize q k = x at hq c0 c1 c2 c3 c4 c5 c6 d0 d1 d2 d3 d4 d5 d6
      obtain ⟨op, d, a, b, kk, t, f⟩ := x
      go_wp2
      go_quiet (fail)
      go_wp2
      exact ⟨⟨k + 1, by omega, by go_num, ⟨below_drawn HF.out.1 _, HF.out.2.1, HF.out.2.2.1, HF.out.2.2.2.1, HF.out.2.2.2.2⟩⟩, by simp [intOf]; omega⟩
    · clear hF
      go_wp2
      go_ret
      exact ⟨rfl, HF.out.1⟩
end Go.Proofs.YtoajommeiocfpaaDoor
namespace Go.Proofs.YtoajommeiocfpaaDoor
open Go Go.ChangeShapes Go.WideShapes Go.ChangeAt Go.RowKit Go.Deep
set_option linter.unusedSimpArgs false
set_option linter.unusedVariables false

/-- An instruction that came in. -/
theorem ir_at_in {W : World} {x : Addr} {i : Nat} {z0 z1 z2 z3 z4 z5 z6 : Int} (c0 : W.cell? (x.add (i * 7 + 0)) = some (.int .i64 z0)) (c1 : W.cell? (x.add (i * 7 + 1)) = some (.int .i64 z1)) (c2 : W.cell? (x.add (i * 7 + 2)) = some (.int .i64 z2)) (c3 : W.cell? (x.add (i * 7 + 3)) = some (.int .i64 z3)) (c4 : W.cell? (x.add (i * 7 + 4)) = some (.int .u32 z4)) (c5 : W.cell? (x.add (i * 7 + 5)) = some (.int .i64 z5)) (c6 : W.cell? (x.add (i * 7 + 6)) = some (.int .i64 z6))
    (f4 : (Lit.int .u32 z4).wf = true) : ∃ y : Irx, ∀ j u, (irL y)[j]? = some u → W.cell? (x.add (i * 7 + j)) = some u := by
  have g4 : 0 ≤ z4 ∧ z4 ≤ 4294967295 := by simpa [Lit.wf, IntKind.min, IntKind.max, IntKind.bits, IntKind.signed] using f4
  have e4 : (((BitVec.ofNat 32 z4.toNat).toNat : Nat) : Int) = z4 := by
    rw [BitVec.toNat_ofNat, Nat.mod_eq_of_lt (by omega), Int.toNat_of_nonneg g4.1]
  refine ⟨⟨z0, z1, z2, z3, BitVec.ofNat 32 z4.toNat, z5, z6⟩, fun j u hj => ?_⟩
  match j, hj with
  | 0, hj => obtain rfl := Option.some.inj hj; exact c0
  | 1, hj => obtain rfl := Option.some.inj hj; exact c1
  | 2, hj => obtain rfl := Option.some.inj hj; exact c2
  | 3, hj => obtain rfl := Option.some.inj hj; exact c3
  | 4, hj => obtain rfl := Option.some.inj hj; rw [e4]; exact c4
  | 5, hj => obtain rfl := Option.some.inj hj; exact c5
  | 6, hj => obtain rfl := Option.some.inj hj; exact c6
  | n + 7, hj => exact absurd (List.getElem?_eq_some_iff.1 hj).1 (by show ¬ n + 7 < 7; omega)
theorem irs_at_in {W : World} {x : Addr} {l : Nat} (hl : l ≤ maxLen) (h : ∀ i, i < l → ∃ y : Irx, ∀ j u, (irL y)[j]? = some u → W.cell? (x.add (i * 7 + j)) = some u) : ∃ q, IrAt W (some x) l q := by
  have hc : ∃ f : Nat → Irx, ∀ i, i < l → ∀ j u, (irL (f i))[j]? = some u → W.cell? (x.add (i * 7 + j)) = some u :=
    ⟨fun i => if g : i < l then (h i g).choose else ⟨0, 0, 0, 0, 0#32, 0, 0⟩, fun i g => by
      show ∀ j u, (irL (if g : i < l then (h i g).choose else ⟨0, 0, 0, 0, 0#32, 0, 0⟩))[j]? = some u → _
      rw [dif_pos g]; exact (h i g).choose_spec⟩
  obtain ⟨f, hf⟩ := hc
  refine ⟨f, hl, fun hp => ?_⟩
  obtain ⟨b, off, spot⟩ := x
  have c0 := hf 0 hp 0 _ rfl
  have hspot : spot = none := by simpa [Addr.add] using World.cell?_spot c0
  subst hspot
  rw [addr_add] at c0
  refine ⟨b, off, rfl, cell_lt c0, fun i hi j u hj => ?_⟩
  have := hf i hi j u hj
  rw [addr_add] at this
  rw [Nat.add_assoc]; exact this
section
variable {H : Type} {enc : TypeId × Value → H} {W : World} {base : Nat} {spare : Nat → Bool} {held : Bool}
theorem irs_of_trod {fuel : Nat} {cs : List Value} {x : DataW H × List MemPlace} (h : DataW.trod enc Tryd.prog W base spare held fuel 22 cs = some x) : ∃ A len cap q, cs = [.slice A len cap] ∧ IrAt W A len q := by
  rcases rows_fields Tryd.underlying22 Tryd.underlying59 (by kernel_rfl) (by kernel_rfl) h with hcs | ⟨x, l, c, hcs, hl, hm, hi⟩
  · exact ⟨none, 0, 0, fun _ => ⟨0, 0, 0, 0, 0#32, 0, 0⟩, hcs, by unfold maxLen; omega, fun h => absurd h (by omega)⟩
  · obtain ⟨q, hq⟩ := irs_at_in (Nat.le_trans hl hm) (fun i hil => by
      obtain ⟨v0, y0, m0, c0, t0⟩ := hi i hil 0 _ rfl
      obtain ⟨z0, e0, _, _⟩ := DataW.trod_int Tryd.underlying57 t0
      simp only [List.cons.injEq, and_true] at e0; subst e0
      obtain ⟨v1, y1, m1, c1, t1⟩ := hi i hil 1 _ rfl
      obtain ⟨z1, e1, _, _⟩ := DataW.trod_int Tryd.underlying3 t1
      simp only [List.cons.injEq, and_true] at e1; subst e1
      obtain ⟨v2, y2, m2, c2, t2⟩ := hi i hil 2 _ rfl
      obtain ⟨z2, e2, _, _⟩ := DataW.trod_int Tryd.underlying3 t2
      simp only [List.cons.injEq, and_true] at e2; subst e2
      obtain ⟨v3, y3, m3, c3, t3⟩ := hi i hil 3 _ rfl
      obtain ⟨z3, e3, _, _⟩ := DataW.trod_int Tryd.underlying3 t3
      simp only [List.cons.injEq, and_true] at e3; subst e3
      obtain ⟨v4, y4, m4, c4, t4⟩ := hi i hil 4 _ rfl
      obtain ⟨z4, e4, _, f4⟩ := DataW.trod_int Tryd.underlying48 t4
      simp only [List.cons.injEq, and_true] at e4; subst e4
      obtain ⟨v5, y5, m5, c5, t5⟩ := hi i hil 5 _ rfl
      obtain ⟨z5, e5, _, _⟩ := DataW.trod_int Tryd.underlying3 t5
      simp only [List.cons.injEq, and_true] at e5; subst e5
      obtain ⟨v6, y6, m6, c6, t6⟩ := hi i hil 6 _ rfl
      obtain ⟨z6, e6, _, _⟩ := DataW.trod_int Tryd.underlying3 t6
      simp only [List.cons.injEq, and_true] at e6; subst e6
      exact ir_at_in c0 c1 c2 c3 c4 c5 c6 f4)
    exact ⟨some x, l, c, q, hcs, hq⟩
/-- A part of a struct that came in, a slice: no more than the statement's own reach. -/
theorem sized_part {P : Program} {ts : List TypeId} {ds : List (DataW H)} (h : (DataW.weightsEach P ts ds).all (· ≤ reachBytes) = true) {j : Nat} {t : TypeId} {fs : Array Field} {parts : List (DataW H)} (ht : ts[j]? = some t) (hd : ds[j]? = some (.agg parts)) (hu : P.underlying t = some (.struct fs))
    {i : Nat} {ft e : TypeId} {elems rest : List (DataW H)} (hft : (fs.toList.map (·.type))[i]? = some ft) (hp : parts[i]? = some (.slice elems rest)) (hu2 : P.underlying ft = some (.slice e)) : (elems.length + rest.length) * P.bytesOf e ≤ reachBytes := by
  have h1 : (elems.length + rest.length) * P.bytesOf e ∈ DataW.weightsEach P (fs.toList.map (·.type)) parts := DataW.weights_mem_each hft hp _ (by simp [DataW.weights, hu2])
  have := List.all_eq_true.1 h _ (DataW.weights_mem_each ht hd ((elems.length + rest.length) * P.bytesOf e) (by simp only [DataW.weights, hu]; exact h1))
  simpa using this
set_option maxRecDepth 100000 in
theorem open_mir {r : Reach} {b0 : Nat} {v : Value} {d : DataW H} {p : List MemPlace} (hv : Value.okWide Tryd.prog W r b0 24 v) (h : DataW.Trod enc Tryd.prog W base spare held 24 v d p) :
    ∃ regs A len cap q, v = mirV regs A len cap ∧ IrAt W A len q ∧ ∀ (ts : List TypeId) (ds : List (DataW H)) (j : Nat), (DataW.weightsEach Tryd.prog ts ds).all (· ≤ reachBytes) = true → ts[j]? = some 24 → ds[j]? = some d → len * 56 ≤ 140737488351232 := by
  obtain ⟨c0, c1, y0, y1, m, rfl, hd, hp, hy0, hy1⟩ := Joins.open_agg2 Tryd.underlying24 (by kernel_rfl) (by kernel_rfl : Tryd.prog.cellsOf 24 = 2) hv h
  obtain ⟨z0, e0, _, _⟩ := DataW.trod_int Tryd.underlying3 hy0
  simp only [List.cons.injEq, and_true] at e0; subst e0
  obtain ⟨A, len, cap, q, hcs, hq⟩ := irs_of_trod hy1
  have hsz := rows_sized Tryd.underlying22 hy1
  simp only [List.cons.injEq, and_true] at hcs; subst hcs
  refine ⟨z0, A, len, cap, q, rfl, hq, fun ts ds j hall ht hdj => ?_⟩
  rcases hsz with hcs | ⟨x, l, c, elems, rest, hcs, hd1, hle⟩
  · simp only [List.cons.injEq, and_true, Value.slice.injEq] at hcs
    obtain ⟨rfl, rfl, rfl⟩ := hcs
    omega
  · simp only [List.cons.injEq, and_true, Value.slice.injEq] at hcs
    obtain ⟨rfl, rfl, rfl⟩ := hcs
    have hr := sized_part hall ht (hdj.trans (congrArg some hd)) Tryd.underlying24 (i := 1) (ft := 22) (e := 59) (elems := elems) (rest := rest) (by kernel_rfl) (by rw [← hd1]; rfl) Tryd.underlying22
    rw [show Tryd.prog.bytesOf 59 = 56 by kernel_rfl] at hr
    simp only [reachBytes] at hr
    have := Nat.mul_le_mul_right 56 hle
    omega
end
end Go.Proofs.YtoajommeiocfpaaDoor
namespace Go.Proofs.YtoajommeiocfpaaDoor
open Go Go.RowKit
set_option linter.unusedSimpArgs false
set_option linter.unusedVariables false

abbrev SL (w W : World) (regs : Int) (A : Option Addr) (n cap g cap' bx : Nat) (q : Nat → Irx) : Prop :=
  FM w W regs A n cap q ∧ IrAt W (some ⟨g, 0, none⟩) n q ∧ W.cell? ⟨g, n * 7, none⟩ = some (.int .i64 77) ∧ g < W.heap.size ∧ W.heap[bx]? = some (mirO regs (some ⟨g, 0, none⟩) n cap')
theorem SL.up {w W W' : World} {regs : Int} {A : Option Addr} {n cap g cap' bx : Nat} {q : Nat → Irx} (h : SL w W regs A n cap g cap' bx q) (hb : Below W.heap.size W W') : SL w W' regs A n cap g cap' bx q :=
  ⟨h.1.up hb, h.2.1.below hb, (hb.cell (p := ⟨g, n * 7, none⟩) h.2.2.2.1).trans h.2.2.1, Nat.lt_of_lt_of_le h.2.2.2.1 hb.size, keepM h.2.2.2.2 hb⟩
theorem SL.first {w w1 w2 : World} {regs : Int} {A : Option Addr} {n cap g cap' : Nat} {q : Nat → Irx} (h : FM w w1 regs A n cap q) (hl : LentM w1 w2 g cap' n q) : SL w (w2.alloc (mirO regs (some ⟨g, 0, none⟩) n cap')) regs A n cap g cap' w2.heap.size q :=
  have hb := lboxM w2 (mirO regs (some ⟨g, 0, none⟩) n cap')
  ⟨(h.up hl.bel).up hb, hl.prog.below hb, (hb.cell (p := ⟨g, n * 7, none⟩) hl.lt).trans hl.mark, Nat.lt_of_lt_of_le hl.lt hb.size, World.alloc_heap_new w2 _⟩
theorem dat_of_row {w : World} {a : Option Addr} {len cap : Nat} {zs : List Int} (h : IsRow .u8 w a len cap zs) : DatAt w a len (fun i => zs.getD i 0) := fun h64 => by
  obtain ⟨b, off, rfl, hl, hc⟩ := holds_of_isRow h (by omega)
  exact ⟨b, off, rfl, hl, isRow_byte h, fun i hi => hc i (by omega)⟩
theorem dat_of_holds {w : World} {A : Option Addr} {len : Nat} {z : Nat → Int} (h : Holds w A len (fun i => .int .u8 (z i))) (hz : ∀ i, 0 ≤ z i ∧ z i < 256) : DatAt w A len z := fun h64 => by
  obtain ⟨b, off, rfl, hl, hc⟩ := h (by omega)
  exact ⟨b, off, rfl, hl, hz, fun i hi => hc i (by omega)⟩
end Go.Proofs.YtoajommeiocfpaaDoor
