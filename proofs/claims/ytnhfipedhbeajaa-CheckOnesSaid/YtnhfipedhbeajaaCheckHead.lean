/-
  The verifier's own Head of layer 4, a question whose answer is fixed: a contract; and what stands of a program that came in while it is looked at. No condition.
-/
import Derived.Test.YtnhfipedhbeajaaPCheck
import Derived.Test.YtnhfipedhbeajaaCbpfLent
import Derived.Test.YtnhfipedhbeajaaCbpfArgs
namespace Go.Proofs.Ytnhfipedhbeajaa
open Go Go.RowKit
set_option linter.unusedSimpArgs false
set_option linter.unusedVariables false

def headA : Nat → Ins := fun _ => ⟨6, 0, 0, 0#32⟩
def headB : Nat → Ins
  | 0 => ⟨6, 0, 0, 0#32⟩
  | _ => ⟨0, 0, 0, 0#32⟩
theorem head_A_is : checkE headA 1 = 0 ∧ checkP headA 1 = 0 := by decide
theorem head_B_is : checkE headB 2 = 48 ∧ checkP headB 2 = 1 := by decide
abbrev headAO : Obj := .cells #[.int .u16 6, .int .u8 0, .int .u8 0, .int .u32 0] 38
abbrev headBO : Obj := .cells #[.int .u16 6, .int .u8 0, .int .u8 0, .int .u32 0, .int .u16 0, .int .u8 0, .int .u8 0, .int .u32 0] 38
theorem head_A_prog (w : World) : ProgAt (w.alloc headAO) (some ⟨w.heap.size, 0, none⟩) 1 headA := fun _ => by
  refine ⟨w.heap.size, 0, rfl, by simp, fun i hi => ?_⟩
  obtain rfl : i = 0 := by omega
  exact ⟨by simp [headA], by simp [headA], by simp [headA], by simp [headA]⟩
theorem head_B_prog (w : World) : ProgAt (w.alloc headBO) (some ⟨w.heap.size, 0, none⟩) 2 headB := fun _ => by
  refine ⟨w.heap.size, 0, rfl, by simp, fun i hi => ?_⟩
  have : i = 0 ∨ i = 1 := by omega
  rcases this with rfl | rfl <;> exact ⟨by simp [headB], by simp [headB], by simp [headB], by simp [headB]⟩
theorem head_A_run (w : World) : Calls Try.prog 11 #[.slice (some ⟨w.heap.size, 0, none⟩) 1 1] (w.alloc headAO) fun e w' => e = .returned (.tuple #[.int .i64 0, .int .i64 0]) ∧ Below w.heap.size w w' := by
  refine (check_Check _ _ 1 1 headA (head_A_prog w) (fun i hi => ⟨by simp [headA], by simp [headA], by simp [headA], by simp [headA]⟩)).mono ?_
  rintro e w' ⟨rfl, hb⟩
  exact ⟨by rw [head_A_is.1, head_A_is.2]; rfl, (box_below w _).trans (hb.mono (by simp))⟩
theorem head_B_run (w : World) : Calls Try.prog 11 #[.slice (some ⟨w.heap.size, 0, none⟩) 2 2] (w.alloc headBO) fun e w' => e = .returned (.tuple #[.int .i64 48, .int .i64 1]) ∧ Below w.heap.size w w' := by
  refine (check_Check _ _ 2 2 headB (head_B_prog w) (fun i hi => ?_)).mono ?_
  · have : i = 0 ∨ i = 1 := by omega
    rcases this with rfl | rfl <;> exact ⟨by decide, by decide, by decide, by decide⟩
  · rintro e w' ⟨rfl, hb⟩
    exact ⟨by rw [head_B_is.1, head_B_is.2]; rfl, (box_below w _).trans (hb.mono (by simp))⟩
theorem head4_is (w : World) : Calls Try.prog 9 #[] w fun e w' => e = .returned (.bool true) ∧ Below w.heap.size w w' := by
  have H1 := Lib.hid (head_A_run w)
  have H2 := Lib.hid head_B_run
  go_enter Try.func9, Try.ntmps9
  go_wp2_with (first
    | (go_at_call 11; (with_reducible refine H1.out.mono ?_); rintro e w1 ⟨rfl, hb⟩; have HB1 := Lib.hid hb; clear hb H1)
    | (go_at_call 11; (with_reducible refine (H2.out _).mono ?_); rintro e w2 ⟨rfl, hb⟩; have HB2 := Lib.hid (HB1.out.trans (hb.mono HB1.out.size)); clear hb))
  go_ret
  exact ⟨rfl, HB2.out⟩
end Go.Proofs.Ytnhfipedhbeajaa
