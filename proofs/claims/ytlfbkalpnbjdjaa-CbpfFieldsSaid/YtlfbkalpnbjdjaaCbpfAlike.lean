/-
  Classic BPF as plain functions: what an instruction does not ask for changes no step, and no run. No condition: nothing here speaks of a program of Go's.
-/
import Derived.Test.YtlfbkalpnbjdjaaCbpfRun
namespace Go.Proofs.Ytlfbkalpnbjdjaa
open Go
set_option linter.unusedSimpArgs false
set_option linter.unusedVariables false

/-- Codes that ask for no K. -/
def kless (c : Int) : Bool := [22, 128, 129, 132, 7, 135].contains c || (usesX c && (aluC c || jumpC c))
/-- The same but for what is not asked for. -/
def Alike (i i' : Ins) : Prop := i.code = i'.code ∧ (jumpC i.code = true → i.jt = i'.jt ∧ i.jf = i'.jf) ∧ (kless i.code = false → i.k = i'.k)
theorem alike_wrong {i i' : Ins} (h : Alike i i') : wrongE i.code i.k = wrongE i'.code i'.k := by
  obtain ⟨c, jt, jf, k⟩ := i
  obtain ⟨c', jt', jf', k'⟩ := i'
  obtain ⟨rfl, _, hk⟩ := h
  simp only at hk ⊢
  rcases hl : kless c with _ | _
  · rw [hk hl]
  · unfold wrongE
    split
    · rfl
    · have n1 : ¬ c = 32 := by rintro rfl; cases hl
      have n2 : ¬ (c = 96 ∨ c = 97 ∨ c = 2 ∨ c = 3) := by rintro (rfl | rfl | rfl | rfl) <;> cases hl
      have n3 : ¬ c = 52 := by rintro rfl; cases hl
      simp [n1, n2, n3]
theorem alike_does {i i' : Ins} (h : Alike i i') (word : Nat → BitVec 32) (s : Mach) : s.does word i = s.does word i' := by
  obtain ⟨c, jt, jf, k⟩ := i
  obtain ⟨c', jt', jf', k'⟩ := i'
  obtain ⟨rfl, hj, hk⟩ := h
  simp only at hj hk
  rcases hl : kless c with _ | _
  · obtain rfl := hk hl
    unfold Mach.does
    simp only
    rcases ha : aluC c with _ | _
    · rcases hjc : jumpC c with _ | _
      · simp only [Bool.false_eq_true, if_false]; rfl
      · obtain ⟨rfl, rfl⟩ := hj hjc; rfl
    · rfl
  · have hx : (if usesX c = true then s.x else k) = (if usesX c = true then s.x else k') ∨ (aluC c = false ∧ jumpC c = false) := by
      rcases hu : usesX c with _ | _
      · right
        have hm : [22, 128, 129, 132, 7, 135].contains c = true := by rw [kless, hu] at hl; simpa using hl
        have : c = 22 ∨ c = 128 ∨ c = 129 ∨ c = 132 ∨ c = 7 ∨ c = 135 := by simpa using hm
        rcases this with rfl | rfl | rfl | rfl | rfl | rfl <;> exact ⟨rfl, rfl⟩
      · left; rfl
    rcases ha : aluC c with _ | _
    · rcases hjc : jumpC c with _ | _
      · have hm : c = 22 ∨ c = 128 ∨ c = 129 ∨ c = 132 ∨ c = 7 ∨ c = 135 := by
          rw [kless, ha, hjc] at hl; simpa using hl
        rcases hm with rfl | rfl | rfl | rfl | rfl | rfl <;> rfl
      · obtain ⟨rfl, rfl⟩ := hj hjc
        have hx := hx.resolve_right (fun g => by rw [hjc] at g; cases g.2)
        unfold Mach.does
        simp only
        rw [hx, ha, hjc]
        simp only [Bool.false_eq_true, if_false, if_true]
    · have hx := hx.resolve_right (fun g => by rw [ha] at g; cases g.1)
      unfold Mach.does
      simp only
      rw [hx, ha]
      simp only [if_true]
/-- .. or no operation at all. -/
def Alike' (i i' : Ins) : Prop := i.code = i'.code ∧ (sealsC i.code = true → Alike i i')
theorem alike_step {q q' : Nat → Ins} {n : Nat} (h : ∀ i, i < n → Alike' (q i) (q' i)) (len : Nat) (word : Nat → BitVec 32) (s : Mach) : s.step q n len word = s.step q' n len word := by
  unfold Mach.step
  split
  · rfl
  · split
    · rfl
    · split
      · rfl
      · obtain ⟨hc, ha⟩ := h s.place (by omega)
        rcases hs : sealsC (q s.place).code with _ | _
        · have e1 : wrongE (q s.place).code (q s.place).k = 32 := by rw [wrongE, if_pos hs]
          have e2 : wrongE (q' s.place).code (q' s.place).k = 32 := by rw [wrongE, if_pos (hc ▸ hs)]
          rw [e1, e2]
          rfl
        · rw [alike_wrong (ha hs), alike_does (ha hs)]
theorem alike_iter {q q' : Nat → Ins} {n : Nat} (h : ∀ i, i < n → Alike' (q i) (q' i)) (len : Nat) (word : Nat → BitVec 32) : ∀ k, iterS q n len word k = iterS q' n len word k
  | 0 => rfl
  | k + 1 => by
    show (iterS q n len word k).step q n len word = (iterS q' n len word k).step q' n len word
    rw [alike_iter h len word k, alike_step h]
/-- What is not asked for changes no run. -/
theorem alike_run {q q' : Nat → Ins} {n : Nat} (h : ∀ i, i < n → Alike' (q i) (q' i)) (len : Nat) (word : Nat → BitVec 32) : runM q n len word = runM q' n len word := alike_iter h len word _
end Go.Proofs.Ytlfbkalpnbjdjaa
