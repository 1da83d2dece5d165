/-
  What the document's Step of classic BPF does to its machine where nothing stops it ahead of the instruction: a contract. Conditions: those that it names.
-/
import Derived.Test.YtoajommeiocfpaaCbpfStep
import Derived.StillTailTactics
namespace Go.Proofs.Ytoajommeiocfpaa
open Go Go.RowKit
set_option linter.unusedSimpArgs false
set_option linter.unusedVariables false

/-- An instruction's four values. -/
def insF (i : Ins) : Nat → Value
  | 0 => .int .u16 i.code
  | 1 => .int .u8 (i.jt : Int)
  | 2 => .int .u8 (i.jf : Int)
  | _ => .int .u32 (i.k.toNat : Int)
theorem ins_new (w : World) : (w.alloc (.cells #[.int .u16 0, .int .u8 0, .int .u8 0, .int .u32 0] 44)).rowIs w.heap.size 44 4 (insF ⟨0, 0, 0, 0#32⟩) :=
  World.rowIs_alloc w #[.int .u16 0, .int .u8 0, .int .u8 0, .int .u32 0] 44 _ (fun i hi => by
    rcases i with _ | _ | _ | _ | i
    · rfl
    · rfl
    · rfl
    · rfl
    · exact absurd hi (by simp))
theorem ins_set {w : World} {g : Nat} {i : Ins} (h : w.rowIs g 44 4 (insF i)) (c : Int) (jt jf : Nat) (k : BitVec 32) :
    ((((w.setCell ⟨g, 0, none⟩ (.int .u16 c)).setCell ⟨g, 1, none⟩ (.int .u8 (jt : Int))).setCell ⟨g, 2, none⟩ (.int .u8 (jf : Int))).setCell ⟨g, 3, none⟩ (.int .u32 (k.toNat : Int))).rowIs g 44 4 (insF ⟨c, jt, jf, k⟩) :=
  ((((World.rowIs.set h 0 _).set 1 _).set 2 _).set 3 _).congr (by
    iterate 4 (refine lt_more ?_ rfl)
    exact lt_zero)
theorem ins_grown {a w : World} {g : Nat} (h : a.grownBy w (some g)) (u0 u1 u2 u3 : Value) : a.grownBy ((((w.setCell ⟨g, 0, none⟩ u0).setCell ⟨g, 1, none⟩ u1).setCell ⟨g, 2, none⟩ u2).setCell ⟨g, 3, none⟩ u3) (some g) :=
  grown_set (grown_set (grown_set (grown_set h 0 _) 1 _) 2 _) 3 _

theorem rest_not {c : Int} (h : restC c = true) : aluC c = false ∧ jumpC c = false := by
  rcases rest_cases h with rfl | rfl | rfl | rfl | rfl | rfl | rfl | rfl | rfl | rfl | rfl | rfl | rfl | rfl | rfl <;> exact ⟨rfl, rfl⟩
theorem moves_keeps (word : Nat → BitVec 32) (s : Mach) (i : Ins) : (s.moves word i).place = s.place ∧ (s.moves word i).steps = s.steps := by
  exact ⟨by simp only [Mach.moves, apply_ite Mach.place, ite_self], by simp only [Mach.moves, apply_ite Mach.steps, ite_self]⟩

theorem and_eight {c : Int} (h : aluC c = true ∨ jumpC c = true) : bits .and .u16 c 8 = if usesX c then 8 else 0 := by
  rcases h with h | h
  · rcases alu_cases h with rfl | rfl | rfl | rfl | rfl | rfl | rfl | rfl | rfl | rfl | rfl | rfl | rfl | rfl | rfl | rfl | rfl | rfl <;> decide
  · rcases jump_cases h with rfl | rfl | rfl | rfl | rfl | rfl | rfl | rfl <;> decide
theorem jump_not {c : Int} (h : jumpC c = true) : aluC c = false := by
  rcases jump_cases h with rfl | rfl | rfl | rfl | rfl | rfl | rfl | rfl <;> rfl
theorem alu_not {c : Int} (h : aluC c = true) : jumpC c = false := by
  rcases alu_cases h with rfl | rfl | rfl | rfl | rfl | rfl | rfl | rfl | rfl | rfl | rfl | rfl | rfl | rfl | rfl | rfl | rfl | rfl <;> rfl
section
variable (w : World) (b qb qo n qcap db doff dcap : Nat) (z : Nat → Int) (s : Mach) (c : Int) (jt jf : Nat) (k : BitVec 32)

end
end Go.Proofs.Ytoajommeiocfpaa
