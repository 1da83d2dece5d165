/-
  The verifier's own Head of layer 3, a question whose answer is fixed, and how many steps a run takes: contracts. No condition.
-/
import Derived.Test.YtnhfipedhbeajaaPRun
import Derived.Test.YtnhfipedhbeajaaCbpfLent
import Derived.Test.YtnhfipedhbeajaaSecData
namespace Go.Proofs.Ytnhfipedhbeajaa
open Go Go.RowKit
set_option linter.unusedSimpArgs false
set_option linter.unusedVariables false

theorem iter_within (q : Nat → Ins) (n len : Nat) (word : Nat → BitVec 32) : ∀ k, (iterS q n len word k).steps ≤ n
  | 0 => Nat.zero_le _
  | k + 1 => by
    have ih := iter_within q n len word k
    have hg := iter_going q n len word k
    show ((iterS q n len word k).step q n len word).steps ≤ n
    generalize iterS q n len word k = s at ih hg ⊢
    rcases hd : s.done with _ | _
    · have hg := hg hd
      by_cases hl : len = 64
      · by_cases hp : n ≤ s.place
        · rw [show s.step q n len word = s.fails 33 by simp [Mach.step, hd, hl, hp]]; exact ih
        · have := step_steps q n len word s; omega
      · rw [show s.step q n len word = s.fails 21 by simp [Mach.step, hd, hl]]; exact ih
    · rw [step_of_done q n len word _ hd]; exact ih
theorem run_within (q : Nat → Ins) (n len : Nat) (word : Nat → BitVec 32) : (runM q n len word).steps ≤ n := iter_within q n len word _

/-- The question's program. -/
def headQ : Nat → Ins
  | 0 => ⟨0, 0, 0, 7#32⟩
  | 1 => ⟨4, 0, 0, 1#32⟩
  | _ => ⟨22, 0, 0, 0#32⟩
theorem head_one (word : Nat → BitVec 32) : Mach.start.step headQ 3 64 word = ⟨7#32, 0#32, fun _ => 0#32, 1, 1, false, 0#32, 0⟩ := by
  simp [Mach.step, Mach.start, headQ, wrongE, sealsC, aluC, aluL, jumpC, jumpL, restC, restL, Mach.does, Mach.moves, Mach.on]
theorem head_two (word : Nat → BitVec 32) : Mach.step headQ 3 64 word ⟨7#32, 0#32, fun _ => 0#32, 1, 1, false, 0#32, 0⟩ = ⟨8#32, 0#32, fun _ => 0#32, 2, 2, false, 0#32, 0⟩ := by
  simp [Mach.step, headQ, wrongE, sealsC, aluC, aluL, jumpC, jumpL, restC, restL, Mach.does, Mach.moves, Mach.on, usesX, opN, twoN]
theorem head_three (word : Nat → BitVec 32) : Mach.step headQ 3 64 word ⟨8#32, 0#32, fun _ => 0#32, 2, 2, false, 0#32, 0⟩ = ⟨8#32, 0#32, fun _ => 0#32, 2, 3, true, 8#32, 0⟩ := by
  simp [Mach.step, headQ, wrongE, sealsC, aluC, aluL, jumpC, jumpL, restC, restL, Mach.does, Mach.moves, Mach.on, Mach.ends]
theorem head_runs (word : Nat → BitVec 32) : runM headQ 3 64 word = ⟨8#32, 0#32, fun _ => 0#32, 2, 3, true, 8#32, 0⟩ := by
  show (((Mach.start.step headQ 3 64 word).step headQ 3 64 word).step headQ 3 64 word).step headQ 3 64 word = _
  rw [head_one, head_two, head_three, step_of_done _ _ _ _ _ rfl]
theorem head_ans (word : Nat → BitVec 32) : ansV (runM headQ 3 64 word) = .tuple #[.int .u32 8, .int .i64 3, .int .i64 0, .int .i64 0] := by
  rw [head_runs]; rfl
theorem headQ_ok (i : Nat) (h : i < 3) : (headQ i).OK := by
  have : i = 0 ∨ i = 1 ∨ i = 2 := by omega
  rcases this with rfl | rfl | rfl <;> exact ⟨by decide, by decide, by decide, by decide⟩
abbrev headCells : Obj := .cells #[.int .u16 0, .int .u8 0, .int .u8 0, .int .u32 7, .int .u16 4, .int .u8 0, .int .u8 0, .int .u32 1, .int .u16 22, .int .u8 0, .int .u8 0, .int .u32 0] 38
theorem head_prog (w : World) : ProgAt (w.alloc headCells) (some ⟨w.heap.size, 0, none⟩) 3 headQ := fun _ => by
  refine ⟨w.heap.size, 0, rfl, by simp, fun i hi => ?_⟩
  have : i = 0 ∨ i = 1 ∨ i = 2 := by omega
  rcases this with rfl | rfl | rfl <;> exact ⟨by simp [headQ], by simp [headQ], by simp [headQ], by simp [headQ]⟩

theorem head_Run (w w1 : World) (g : Nat) (hb : Below (w.alloc headCells).heap.size (w.alloc headCells) w1) (hr : w1.rowIs g 5 64 (fun _ => .int .u8 0)) :
    Calls Try.prog 18 #[.slice (some ⟨w.heap.size, 0, none⟩) 3 3, .slice (some ⟨g, 0, none⟩) 64 64] w1 fun e w' => e = .returned (.tuple #[.int .u32 8, .int .i64 3, .int .i64 0, .int .i64 0]) ∧ Below w.heap.size w w' := by
  have hp : ProgAt w1 (some ⟨w.heap.size, 0, none⟩) 3 headQ := (head_prog w).below hb
  have hd : Bytes64 w1 g 0 (fun _ => 0) := ⟨hr.lt, fun _ => ⟨Int.le_refl 0, by show (0 : Int) < 256; decide⟩, fun i hi => by rw [Nat.zero_add]; exact hr.cell hi⟩
  refine (cbpf_Run w1 _ 3 3 headQ _ 64 64 (fun _ => 0) ⟨hp, fun _ => ⟨g, 0, rfl, hd.1, hd.2.2⟩, hd.2.1, by decide, by decide, headQ_ok⟩).mono ?_
  rintro e w' ⟨rfl, hb2⟩
  have hb1 : Below w.heap.size w w1 := (box_below w headCells).trans (hb.mono (by simp))
  exact ⟨by rw [head_ans], hb1.trans (hb2.mono hb1.size)⟩

end Go.Proofs.Ytnhfipedhbeajaa
