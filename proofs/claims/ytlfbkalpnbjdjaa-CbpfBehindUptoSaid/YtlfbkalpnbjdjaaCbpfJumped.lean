/-
  Classic BPF as plain functions: a program behind a Ja that leads over what stands between runs as it does alone. No condition: nothing here speaks of a program of Go's.
-/
import Derived.Test.YtlfbkalpnbjdjaaCbpfRun
namespace Go.Proofs.Ytlfbkalpnbjdjaa
open Go
set_option linter.unusedSimpArgs false
set_option linter.unusedVariables false

/-- The same machine, d places and a step further. -/
def shiftM (d : Nat) (s : Mach) : Mach := { s with place := s.place + d, steps := s.steps + 1 }
theorem shift_fails (d : Nat) (s : Mach) (e : Int) : (shiftM d s).fails e = shiftM d (s.fails e) := rfl
theorem shift_ends (d : Nat) (s : Mach) (v : BitVec 32) : (shiftM d s).ends v = shiftM d (s.ends v) := rfl
theorem shift_on (d : Nat) (s : Mach) (k : Nat) : (shiftM d s).on k = shiftM d (s.on k) := by
  show Mach.mk _ _ _ (s.place + d + k) _ _ _ _ = Mach.mk _ _ _ (s.place + k + d) _ _ _ _
  rw [Nat.add_right_comm]
  rfl
theorem shift_moves (d : Nat) (word : Nat → BitVec 32) (s : Mach) (i : Ins) : (shiftM d s).moves word i = shiftM d (s.moves word i) := by
  unfold Mach.moves
  simp only [apply_ite (shiftM d)]
  rfl
theorem shift_does (d : Nat) (word : Nat → BitVec 32) (s : Mach) (i : Ins) : (shiftM d s).does word i = shiftM d (s.does word i) := by
  have hx : (shiftM d s).x = s.x := rfl
  have ha : (shiftM d s).a = s.a := rfl
  unfold Mach.does
  simp only [apply_ite (shiftM d), shift_moves, hx, ha]
  simp only [← shift_on, ← shift_ends]
  rfl
theorem shift_step {q x : Nat → Ins} {n d : Nat} (h : ∀ i, i < n → x (i + d) = q i) (word : Nat → BitVec 32) (s : Mach) : (shiftM d s).step x (n + d) 64 word = shiftM d (s.step q n 64 word) := by
  have hd : (shiftM d s).done = s.done := rfl
  have hp : (shiftM d s).place = s.place + d := rfl
  unfold Mach.step
  rw [hd, hp]
  by_cases h1 : s.done = true
  · simp only [h1, if_true]
  · by_cases h2 : n ≤ s.place
    · simp only [h1, if_false, ne_eq, not_true_eq_false, if_pos h2, if_pos (show n + d ≤ s.place + d by omega), shift_fails]; rfl
    · rw [h _ (by omega)]
      simp only [h1, if_false, ne_eq, not_true_eq_false, if_neg h2, if_neg (show ¬ n + d ≤ s.place + d by omega), shift_fails, shift_does, apply_ite (shiftM d)]
theorem behind_start {x : Nat → Ins} {n m jt jf : Nat} {k : BitVec 32} (hx : x 0 = ⟨5, jt, jf, k⟩) (hk : k.toNat = m) (word : Nat → BitVec 32) : Mach.start.step x (n + (m + 1)) 64 word = shiftM (m + 1) Mach.start := by
  have hw : wrongE 5 k = 0 := by simp [wrongE, sealsC, aluC, aluL, jumpC, jumpL, restC, restL]
  have hp : ¬ n + (m + 1) ≤ 0 := by omega
  unfold Mach.step
  rw [show Mach.start.place = 0 from rfl, hx]
  simp only [show Mach.start.done = false from rfl, hw, if_neg hp, ne_eq, not_true_eq_false, if_false, Bool.false_eq_true]
  show Mach.on Mach.start (1 + k.toNat) = _
  rw [hk, Nat.add_comm 1 m]
  show Mach.mk _ _ _ (0 + (m + 1)) _ _ _ _ = Mach.mk _ _ _ (0 + (m + 1)) _ _ _ _
  rfl
theorem behind_iter {q x : Nat → Ins} {n m jt jf : Nat} {k : BitVec 32} (hx : x 0 = ⟨5, jt, jf, k⟩) (hk : k.toNat = m) (h : ∀ i, i < n → x (i + (m + 1)) = q i) (word : Nat → BitVec 32) : ∀ j, iterS x (n + (m + 1)) 64 word (j + 1) = shiftM (m + 1) (iterS q n 64 word j)
  | 0 => behind_start hx hk word
  | j + 1 => by
    show (iterS x (n + (m + 1)) 64 word (j + 1)).step x (n + (m + 1)) 64 word = shiftM (m + 1) ((iterS q n 64 word j).step q n 64 word)
    rw [behind_iter hx hk h word j, shift_step h]
/-- What is jumped over changes no run. -/
theorem behind_run {q x : Nat → Ins} {n m jt jf : Nat} {k : BitVec 32} (hx : x 0 = ⟨5, jt, jf, k⟩) (hk : k.toNat = m) (h : ∀ i, i < n → x (i + (m + 1)) = q i) (word : Nat → BitVec 32) : runM x (n + (m + 1)) 64 word = shiftM (m + 1) (runM q n 64 word) := by
  show iterS x (n + (m + 1)) 64 word (n + (m + 1) + 1) = _
  rw [behind_iter hx hk h word, show n + (m + 1) = n + 1 + m by omega, iter_stays q n 64 word (run_done q n 64 word) m]
  rfl
end Go.Proofs.Ytlfbkalpnbjdjaa
