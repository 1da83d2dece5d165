/-
  Which programs of classic BPF may be, as plain functions: One, Check; what is accepted ends well; what is left of it, and two together, are accepted. No condition: nothing here speaks of a program of Go's.
-/
import Derived.Test.YtgpjiflgocgolaaCbpfAll
namespace Go.Proofs.Ytgpjiflgocgolaa
open Go
set_option linter.unusedSimpArgs false
set_option linter.unusedVariables false

/-- Instruction i of n: an error's number, or 0. -/
def oneE (q : Nat → Ins) (n i : Nat) : Int :=
  if sealsC (q i).code = false then 42
  else if (q i).code = 5 ∧ n - i - 1 ≤ (q i).k.toNat then 43
  else if jumpC (q i).code = true ∧ (n - i - 1 ≤ (q i).jt ∨ n - i - 1 ≤ (q i).jf) then 43
  else if (q i).code = 32 ∧ (60 < (q i).k.toNat ∨ (q i).k.toNat % 4 ≠ 0) then 44
  else if (q i).code = 52 ∧ (q i).k = 0#32 then 45
  else if ((q i).code = 100 ∨ (q i).code = 116) ∧ 32 ≤ (q i).k.toNat then 46
  else if ((q i).code = 96 ∨ (q i).code = 97 ∨ (q i).code = 2 ∨ (q i).code = 3) ∧ 16 ≤ (q i).k.toNat then 47
  else 0
structure OneOK (x : Ins) (left : Nat) : Prop where
  seals : sealsC x.code = true
  ja : x.code = 5 → x.k.toNat < left
  jump : jumpC x.code = true → x.jt < left ∧ x.jf < left
  load : x.code = 32 → x.k.toNat ≤ 60 ∧ x.k.toNat % 4 = 0
  div : x.code = 52 → x.k ≠ 0#32
  shift : x.code = 100 ∨ x.code = 116 → x.k.toNat < 32
  scratch : x.code = 96 ∨ x.code = 97 ∨ x.code = 2 ∨ x.code = 3 → x.k.toNat < 16
theorem one_ok {q : Nat → Ins} {n i : Nat} : oneE q n i = 0 ↔ OneOK (q i) (n - i - 1) := by
  unfold oneE
  constructor
  · intro h
    by_cases h1 : sealsC (q i).code = false
    · rw [if_pos h1] at h; cases h
    rw [if_neg h1] at h
    by_cases h2 : (q i).code = 5 ∧ n - i - 1 ≤ (q i).k.toNat
    · rw [if_pos h2] at h; cases h
    rw [if_neg h2] at h
    by_cases h3 : jumpC (q i).code = true ∧ (n - i - 1 ≤ (q i).jt ∨ n - i - 1 ≤ (q i).jf)
    · rw [if_pos h3] at h; cases h
    rw [if_neg h3] at h
    by_cases h4 : (q i).code = 32 ∧ (60 < (q i).k.toNat ∨ (q i).k.toNat % 4 ≠ 0)
    · rw [if_pos h4] at h; cases h
    rw [if_neg h4] at h
    by_cases h5 : (q i).code = 52 ∧ (q i).k = 0#32
    · rw [if_pos h5] at h; cases h
    rw [if_neg h5] at h
    by_cases h6 : ((q i).code = 100 ∨ (q i).code = 116) ∧ 32 ≤ (q i).k.toNat
    · rw [if_pos h6] at h; cases h
    rw [if_neg h6] at h
    by_cases h7 : ((q i).code = 96 ∨ (q i).code = 97 ∨ (q i).code = 2 ∨ (q i).code = 3) ∧ 16 ≤ (q i).k.toNat
    · rw [if_pos h7] at h; cases h
    exact ⟨by cases hs : sealsC (q i).code <;> simp_all, fun e => Nat.lt_of_not_le fun g => h2 ⟨e, g⟩, fun e => ⟨Nat.lt_of_not_le fun g => h3 ⟨e, .inl g⟩, Nat.lt_of_not_le fun g => h3 ⟨e, .inr g⟩⟩, fun e => ⟨Nat.le_of_not_lt fun g => h4 ⟨e, .inl g⟩, Decidable.byContradiction fun g => h4 ⟨e, .inr g⟩⟩, fun e g => h5 ⟨e, g⟩, fun e => Nat.lt_of_not_le fun g => h6 ⟨e, g⟩, fun e => Nat.lt_of_not_le fun g => h7 ⟨e, g⟩⟩
  · intro h
    rw [if_neg (by rw [h.seals]; decide), if_neg (fun g => by have := h.ja g.1; omega), if_neg (fun g => by have := h.jump g.1; omega), if_neg (fun g => by have := h.load g.1; omega), if_neg (fun g => h.div g.1 g.2), if_neg (fun g => by have := h.shift g.1; omega), if_neg (fun g => by have := h.scratch g.1; omega)]
/-- Is it a return? -/
def isRet (c : Int) : Prop := c = 6 ∨ c = 22
instance (c : Int) : Decidable (isRet c) := inferInstanceAs (Decidable (c = 6 ∨ c = 22))
structure Accepted (q : Nat → Ins) (n : Nat) : Prop where
  pos : 0 < n
  max : n ≤ 4096
  all : ∀ i, i < n → oneE q n i = 0
  last : isRet (q (n - 1)).code
/-- The first instruction that may not be. -/
def firstBad (q : Nat → Ins) (n : Nat) : Option Nat := (List.range n).find? fun i => oneE q n i != 0
theorem first_some {q : Nat → Ins} {n i : Nat} (hi : i < n) (hj : ∀ j, j < i → oneE q n j = 0) (hb : oneE q n i ≠ 0) : firstBad q n = some i := by
  unfold firstBad
  rw [List.find?_range_eq_some]
  exact ⟨bne_iff_ne.2 hb, List.mem_range.2 hi, fun j hji => by simp [hj j hji]⟩
theorem first_none {q : Nat → Ins} {n : Nat} (h : ∀ j, j < n → oneE q n j = 0) : firstBad q n = none := by
  unfold firstBad
  rw [List.find?_eq_none]
  intro x hx
  simp [h x (List.mem_range.1 hx)]
theorem first_none' {q : Nat → Ins} {n : Nat} (h : firstBad q n = none) : ∀ j, j < n → oneE q n j = 0 := fun j hj => by
  unfold firstBad at h
  rw [List.find?_eq_none] at h
  simpa using h j (List.mem_range.2 hj)
/-- What Check tells: the error, its place. -/
def checkE (q : Nat → Ins) (n : Nat) : Int :=
  if n = 0 ∨ 4096 < n then 41
  else match firstBad q n with
    | some i => oneE q n i
    | none => if isRet (q (n - 1)).code then 0 else 48
def checkP (q : Nat → Ins) (n : Nat) : Nat :=
  if n = 0 ∨ 4096 < n then 0
  else match firstBad q n with
    | some i => i
    | none => if isRet (q (n - 1)).code then 0 else n - 1
theorem check_is {q : Nat → Ins} {n : Nat} : checkE q n = 0 ↔ Accepted q n := by
  unfold checkE
  constructor
  · intro h
    by_cases h1 : n = 0 ∨ 4096 < n
    · rw [if_pos h1] at h; cases h
    rw [if_neg h1] at h
    cases hf : firstBad q n with
    | some i =>
      rw [hf] at h
      have := List.find?_some hf
      simp only [bne_iff_ne] at this
      exact absurd h this
    | none =>
      rw [hf] at h
      simp only at h
      by_cases h2 : isRet (q (n - 1)).code
      · exact ⟨by omega, by omega, first_none' hf, h2⟩
      · rw [if_neg h2] at h; cases h
  · intro h
    rw [if_neg (by have := h.pos; have := h.max; omega), first_none h.all]
    simp only
    rw [if_pos h.last]

end Go.Proofs.Ytgpjiflgocgolaa
