/-
  Which programs of classic BPF may be, as plain functions: One, Check; what is accepted ends well; what is left of it, and two together, are accepted. No condition: nothing here speaks of a program of Go's.
-/
import Derived.Test.YtoajommeiocfpaaGreatCbpfRun
namespace Go.Proofs.YtoajommeiocfpaaGreat
open Go
set_option linter.unusedSimpArgs false
set_option linter.unusedVariables false

/-- Instruction i of n: an error's number, or 0. -/
def oneE (q : Nat → Ins) (n i : Nat) : Int :=
  if sealsC (q i).code = false then 42
  else if (q i).code = 5 ∧ n - i - 1 ≤ (q i).k.toNat then 43
  else if jumpC (q i).code = true ∧ (n - i - 1 ≤ (q i).jt ∨ n - i - 1 ≤ (q i).jf) then 43
  else if (q i).code = 32 ∧ (60 < (q i).k.toNat ∨ (q i).k.toNat % 4 ≠ 0) then 44
  else if (q i).code = 52 ∧ (q i).k = 0#32 then 45
  else if ((q i).code = 100 ∨ (q i).code = 116) ∧ 32 ≤ (q i).k.toNat then 46
  else if ((q i).code = 96 ∨ (q i).code = 97 ∨ (q i).code = 2 ∨ (q i).code = 3) ∧ 16 ≤ (q i).k.toNat then 47
  else 0
structure OneOK (x : Ins) (left : Nat) : Prop where
  seals : sealsC x.code = true
  ja : x.code = 5 → x.k.toNat < left
  jump : jumpC x.code = true → x.jt < left ∧ x.jf < left
  load : x.code = 32 → x.k.toNat ≤ 60 ∧ x.k.toNat % 4 = 0
  div : x.code = 52 → x.k ≠ 0#32
  shift : x.code = 100 ∨ x.code = 116 → x.k.toNat < 32
  scratch : x.code = 96 ∨ x.code = 97 ∨ x.code = 2 ∨ x.code = 3 → x.k.toNat < 16
theorem one_ok {q : Nat → Ins} {n i : Nat} : oneE q n i = 0 ↔ OneOK (q i) (n - i - 1) := by
  unfold oneE
  constructor
  · intro h
    by_cases h1 : sealsC (q i).code = false
    · rw [if_pos h1] at h; cases h
    rw [if_neg h1] at h
    by_cases h2 : (q i).code = 5 ∧ n - i - 1 ≤ (q i).k.toNat
    · rw [if_pos h2] at h; cases h
    rw [if_neg h2] at h
    by_cases h3 : jumpC (q i).code = true ∧ (n - i - 1 ≤ (q i).jt ∨ n - i - 1 ≤ (q i).jf)
    · rw [if_pos h3] at h; cases h
    rw [if_neg h3] at h
    by_cases h4 : (q i).code = 32 ∧ (60 < (q i).k.toNat ∨ (q i).k.toNat % 4 ≠ 0)
    · rw [if_pos h4] at h; cases h
    rw [if_neg h4] at h
    by_cases h5 : (q i).code = 52 ∧ (q i).k = 0#32
    · rw [if_pos h5] at h; cases h
    rw [if_neg h5] at h
    by_cases h6 : ((q i).code = 100 ∨ (q i).code = 116) ∧ 32 ≤ (q i).k.toNat
    · rw [if_pos h6] at h; cases h
    rw [if_neg h6] at h
    by_cases h7 : ((q i).code = 96 ∨ (q i).code = 97 ∨ (q i).code = 2 ∨ (q i).code = 3) ∧ 16 ≤ (q i).k.toNat
    · rw [if_pos h7] at h; cases h
    exact ⟨by cases hs : sealsC (q i).code <;> simp_all, fun e => Nat.lt_of_not_le fun g => h2 ⟨e, g⟩, fun e => ⟨Nat.lt_of_not_le fun g => h3 ⟨e, .inl g⟩, Nat.lt_of_not_le fun g => h3 ⟨e, .inr g⟩⟩, fun e => ⟨Nat.le_of_not_lt fun g => h4 ⟨e, .inl g⟩, Decidable.byContradiction fun g => h4 ⟨e, .inr g⟩⟩, fun e g => h5 ⟨e, g⟩, fun e => Nat.lt_of_not_le fun g => h6 ⟨e, g⟩, fun e => Nat.lt_of_not_le fun g => h7 ⟨e, g⟩⟩
  · intro h
    rw [if_neg (by rw [h.seals]; decide), if_neg (fun g => by have := h.ja g.1; omega), if_neg (fun g => by have := h.jump g.1; omega), if_neg (fun g => by have := h.load g.1; omega), if_neg (fun g => h.div g.1 g.2), if_neg (fun g => by have := h.shift g.1; omega), if_neg (fun g => by have := h.scratch g.1; omega)]
theorem OneOK.more {x : Ins} {l l' : Nat} (h : OneOK x l) (hl : l ≤ l') : OneOK x l' :=
  ⟨h.seals, fun e => Nat.lt_of_lt_of_le (h.ja e) hl, fun e => ⟨Nat.lt_of_lt_of_le (h.jump e).1 hl, Nat.lt_of_lt_of_le (h.jump e).2 hl⟩, h.load, h.div, h.shift, h.scratch⟩
theorem OneOK.wrong {x : Ins} {l : Nat} (h : OneOK x l) : wrongE x.code x.k = 0 := by
  unfold wrongE
  rw [if_neg (by rw [h.seals]; decide), if_neg (fun g => by have := h.load g.1; omega), if_neg (fun g => by have := h.scratch g.1; omega), if_neg (fun g => h.div g.1 g.2)]

/-- Is it a return? -/
def isRet (c : Int) : Prop := c = 6 ∨ c = 22
instance (c : Int) : Decidable (isRet c) := inferInstanceAs (Decidable (c = 6 ∨ c = 22))
structure Accepted (q : Nat → Ins) (n : Nat) : Prop where
  pos : 0 < n
  max : n ≤ 4096
  all : ∀ i, i < n → oneE q n i = 0
  last : isRet (q (n - 1)).code
/-- The first instruction that may not be. -/
def firstBad (q : Nat → Ins) (n : Nat) : Option Nat := (List.range n).find? fun i => oneE q n i != 0
theorem first_some {q : Nat → Ins} {n i : Nat} (hi : i < n) (hj : ∀ j, j < i → oneE q n j = 0) (hb : oneE q n i ≠ 0) : firstBad q n = some i := by
  unfold firstBad
  rw [List.find?_range_eq_some]
  exact ⟨bne_iff_ne.2 hb, List.mem_range.2 hi, fun j hji => by simp [hj j hji]⟩
theorem first_none {q : Nat → Ins} {n : Nat} (h : ∀ j, j < n → oneE q n j = 0) : firstBad q n = none := by
  unfold firstBad
  rw [List.find?_eq_none]
  intro x hx
  simp [h x (List.mem_range.1 hx)]
theorem first_none' {q : Nat → Ins} {n : Nat} (h : firstBad q n = none) : ∀ j, j < n → oneE q n j = 0 := fun j hj => by
  unfold firstBad at h
  rw [List.find?_eq_none] at h
  simpa using h j (List.mem_range.2 hj)
/-- What Check tells: the error, its place. -/
def checkE (q : Nat → Ins) (n : Nat) : Int :=
  if n = 0 ∨ 4096 < n then 41
  else match firstBad q n with
    | some i => oneE q n i
    | none => if isRet (q (n - 1)).code then 0 else 48
def checkP (q : Nat → Ins) (n : Nat) : Nat :=
  if n = 0 ∨ 4096 < n then 0
  else match firstBad q n with
    | some i => i
    | none => if isRet (q (n - 1)).code then 0 else n - 1
theorem check_is {q : Nat → Ins} {n : Nat} : checkE q n = 0 ↔ Accepted q n := by
  unfold checkE
  constructor
  · intro h
    by_cases h1 : n = 0 ∨ 4096 < n
    · rw [if_pos h1] at h; cases h
    rw [if_neg h1] at h
    cases hf : firstBad q n with
    | some i =>
      rw [hf] at h
      have := List.find?_some hf
      simp only [bne_iff_ne] at this
      exact absurd h this
    | none =>
      rw [hf] at h
      simp only at h
      by_cases h2 : isRet (q (n - 1)).code
      · exact ⟨by omega, by omega, first_none' hf, h2⟩
      · rw [if_neg h2] at h; cases h
  · intro h
    rw [if_neg (by have := h.pos; have := h.max; omega), first_none h.all]
    simp only
    rw [if_pos h.last]

/-- A step of an accepted program, at a place of it. -/
theorem accepted_step {q : Nat → Ins} {n : Nat} (h : Accepted q n) (word : Nat → BitVec 32) (s : Mach) (hd : s.done = false) (hp : s.place < n) :
    ((s.step q n 64 word).done = true ∧ (s.step q n 64 word).err = s.err ∧ (s.step q n 64 word).steps = s.steps + 1) ∨ ((s.step q n 64 word).done = false ∧ (s.step q n 64 word).place < n ∧ (s.step q n 64 word).err = s.err) := by
  have ho := one_ok.1 (h.all _ hp)
  have hw := ho.wrong
  have e : s.step q n 64 word = s.does word (q s.place) := by
    unfold Mach.step
    rw [if_neg (by rw [hd]; decide), if_neg (by decide), if_neg (by omega), if_neg (fun g => g hw)]
  rw [e]
  have nx : ¬ isRet (q s.place).code → s.place + 1 < n := fun hr => by
    rcases Nat.lt_or_ge (s.place + 1) n with g | g
    · exact g
    · have : s.place = n - 1 := by omega
      exact absurd (this ▸ h.last) hr
  have ends : ∀ v, (s.ends v).done = true ∧ (s.ends v).err = s.err ∧ (s.ends v).steps = s.steps + 1 := fun v => ⟨rfl, rfl, rfl⟩
  have on : ∀ (s' : Mach) m, s'.done = s.done → s'.place = s.place → s'.err = s.err → s.place + m < n → (s'.on m).done = false ∧ (s'.on m).place < n ∧ (s'.on m).err = s.err := fun s' m e1 e2 e3 hm => ⟨e1.trans hd, by show s'.place + m < n; omega, e3⟩
  generalize hx : q s.place = x at ho nx
  obtain ⟨c, jt, jf, k⟩ := x
  have hs3 := seals_three (k := k) ho.wrong
  simp only at hs3 nx
  unfold Mach.does
  simp only
  generalize (if usesX c = true then s.x else k) = bv
  rcases hs3 with ha | ⟨ha, hj⟩ | ⟨ha, hj, hr⟩
  · have hnr : ¬ isRet c := by rintro (rfl | rfl) <;> cases ha
    rw [ha]
    simp only [if_true]
    split
    · exact .inl (ends _)
    · exact .inr (on _ 1 rfl rfl rfl (nx hnr))
  · rw [ha, hj]
    simp only [Bool.false_eq_true, if_false, if_true]
    have hjj := ho.jump hj
    simp only at hjj
    refine .inr (on _ _ rfl rfl rfl ?_)
    split <;> omega
  · rw [ha, hj]
    simp only [Bool.false_eq_true, if_false]
    by_cases h5 : c = 5
    · rw [if_pos h5]
      have := ho.ja h5
      simp only at this
      exact .inr (on _ _ rfl rfl rfl (by omega))
    · rw [if_neg h5]
      by_cases h6 : c = 6
      · rw [if_pos h6]; exact .inl (ends _)
      · rw [if_neg h6]
        by_cases h22 : c = 22
        · rw [if_pos h22]; exact .inl (ends _)
        · rw [if_neg h22]
          have hm := moves_keeps word s ⟨c, jt, jf, k⟩
          have hm2 : (s.moves word ⟨c, jt, jf, k⟩).done = s.done ∧ (s.moves word ⟨c, jt, jf, k⟩).err = s.err := ⟨by simp only [Mach.moves, apply_ite Mach.done, ite_self], by simp only [Mach.moves, apply_ite Mach.err, ite_self]⟩
          exact .inr (on _ 1 hm2.1 hm.1 hm2.2 (nx (by rintro (g | g); exact h6 g; exact h22 g)))
theorem accepted_iter {q : Nat → Ins} {n : Nat} (h : Accepted q n) (word : Nat → BitVec 32) : ∀ k, ((iterS q n 64 word k).done = false ∧ (iterS q n 64 word k).place < n ∧ (iterS q n 64 word k).err = 0) ∨ ((iterS q n 64 word k).done = true ∧ (iterS q n 64 word k).err = 0 ∧ 1 ≤ (iterS q n 64 word k).steps)
  | 0 => .inl ⟨rfl, h.pos, rfl⟩
  | k + 1 => by
    show (((iterS q n 64 word k).step q n 64 word).done = false ∧ _) ∨ (((iterS q n 64 word k).step q n 64 word).done = true ∧ _)
    rcases accepted_iter h word k with ⟨h1, h2, h3⟩ | ⟨h1, h2, h3⟩
    · rcases accepted_step h word _ h1 h2 with ⟨g1, g2, g3⟩ | ⟨g1, g2, g3⟩
      · exact .inr ⟨g1, g2.trans h3, by show 1 ≤ ((iterS q n 64 word k).step q n 64 word).steps; omega⟩
      · exact .inl ⟨g1, g2, g3.trans h3⟩
    · rw [step_of_done q n 64 word _ h1]
      exact .inr ⟨h1, by show ((iterS q n 64 word k).step q n 64 word).err = 0; rw [step_of_done q n 64 word _ h1]; exact h2, by show 1 ≤ ((iterS q n 64 word k).step q n 64 word).steps; rw [step_of_done q n 64 word _ h1]; exact h3⟩
/-- T4: what is accepted ends well. -/
theorem accepted_runs {q : Nat → Ins} {n : Nat} (h : Accepted q n) (word : Nat → BitVec 32) : (runM q n 64 word).err = 0 ∧ 1 ≤ (runM q n 64 word).steps := by
  rcases accepted_iter h word (n + 1) with ⟨h1, _⟩ | ⟨_, h2, h3⟩
  · have := run_done q n 64 word
    rw [show runM q n 64 word = iterS q n 64 word (n + 1) from rfl, h1] at this; cases this
  · exact ⟨h2, h3⟩
end Go.Proofs.YtoajommeiocfpaaGreat
