/-
  Programs of registers as plain functions: what an instruction names, which programs may be, what a run answers (of registers in homes). No condition: nothing here speaks of a program.
-/
import Derived.Test.YtoajommeiocfpaaDoorBits32
namespace Go.Proofs.YtoajommeiocfpaaDoor
open Go
set_option linter.unusedSimpArgs false
set_option linter.unusedVariables false

/-- An instruction. -/
structure Irx where
  op : Int
  d : Int
  a : Int
  b : Int
  k : BitVec 32
  t : Int
  f : Int
def dM (op : Int) : Bool := decide (1 ≤ op ∧ op ≤ 13)
def aM (op : Int) : Bool := decide (op = 2 ∨ (4 ≤ op ∧ op ≤ 13) ∨ (15 ≤ op ∧ op ≤ 19))
def bM (op : Int) : Bool := decide ((4 ≤ op ∧ op ≤ 12) ∨ (15 ≤ op ∧ op ≤ 18))
def tM (op : Int) : Bool := decide (14 ≤ op ∧ op ≤ 18)
def fM (op : Int) : Bool := decide (15 ≤ op ∧ op ≤ 18)
/-- Of an instruction's number: what is wrong, or 0. -/
def oneM (regs : Int) (n : Nat) (x : Irx) (i : Nat) : Int :=
  if x.op < 1 ∨ 19 < x.op then 123
  else if (dM x.op = true ∧ (x.d < 0 ∨ regs ≤ x.d)) ∨ (aM x.op = true ∧ (x.a < 0 ∨ regs ≤ x.a)) ∨ (bM x.op = true ∧ (x.b < 0 ∨ regs ≤ x.b)) then 124
  else if x.op = 3 ∧ (60 < x.k.toNat ∨ x.k.toNat % 4 ≠ 0) then 125
  else if (tM x.op = true ∧ (x.t ≤ (i : Int) ∨ (n : Int) ≤ x.t)) ∨ (fM x.op = true ∧ (x.f ≤ (i : Int) ∨ (n : Int) ≤ x.f)) then 126
  else 0
structure OneMOK (regs : Int) (n : Nat) (x : Irx) (i : Nat) : Prop where
  op : 1 ≤ x.op ∧ x.op ≤ 19
  d : dM x.op = true → 0 ≤ x.d ∧ x.d < regs
  a : aM x.op = true → 0 ≤ x.a ∧ x.a < regs
  b : bM x.op = true → 0 ≤ x.b ∧ x.b < regs
  k : x.op = 3 → x.k.toNat ≤ 60 ∧ x.k.toNat % 4 = 0
  t : tM x.op = true → (i : Int) < x.t ∧ x.t < (n : Int)
  f : fM x.op = true → (i : Int) < x.f ∧ x.f < (n : Int)
theorem oneM_ok {regs : Int} {n : Nat} {x : Irx} {i : Nat} : oneM regs n x i = 0 ↔ OneMOK regs n x i := by
  unfold oneM
  constructor
  · intro h
    by_cases h1 : x.op < 1 ∨ 19 < x.op
    · rw [if_pos h1] at h; cases h
    rw [if_neg h1] at h
    by_cases h2 : (dM x.op = true ∧ (x.d < 0 ∨ regs ≤ x.d)) ∨ (aM x.op = true ∧ (x.a < 0 ∨ regs ≤ x.a)) ∨ (bM x.op = true ∧ (x.b < 0 ∨ regs ≤ x.b))
    · rw [if_pos h2] at h; cases h
    rw [if_neg h2] at h
    by_cases h3 : x.op = 3 ∧ (60 < x.k.toNat ∨ x.k.toNat % 4 ≠ 0)
    · rw [if_pos h3] at h; cases h
    rw [if_neg h3] at h
    by_cases h4 : (tM x.op = true ∧ (x.t ≤ (i : Int) ∨ (n : Int) ≤ x.t)) ∨ (fM x.op = true ∧ (x.f ≤ (i : Int) ∨ (n : Int) ≤ x.f))
    · rw [if_pos h4] at h; cases h
    refine ⟨by omega, fun e => ?_, fun e => ?_, fun e => ?_, fun e => ?_, fun e => ?_, fun e => ?_⟩
    · exact Decidable.byContradiction fun g => h2 (.inl ⟨e, by omega⟩)
    · exact Decidable.byContradiction fun g => h2 (.inr (.inl ⟨e, by omega⟩))
    · exact Decidable.byContradiction fun g => h2 (.inr (.inr ⟨e, by omega⟩))
    · exact Decidable.byContradiction fun g => h3 ⟨e, by omega⟩
    · exact Decidable.byContradiction fun g => h4 (.inl ⟨e, by omega⟩)
    · exact Decidable.byContradiction fun g => h4 (.inr ⟨e, by omega⟩)
  · intro h
    have := h.op
    rw [if_neg (by omega), if_neg, if_neg, if_neg]
    · rintro (⟨e, g⟩ | ⟨e, g⟩)
      · have := h.t e; omega
      · have := h.f e; omega
    · rintro ⟨e, g⟩
      have := h.k e; omega
    · rintro (⟨e, g⟩ | ⟨e, g⟩ | ⟨e, g⟩)
      · have := h.d e; omega
      · have := h.a e; omega
      · have := h.b e; omega
/-- The first instruction that may not be. -/
def firstM (regs : Int) (q : Nat → Irx) (n : Nat) : Option Nat := (List.range n).find? fun i => oneM regs n (q i) i != 0
theorem firstM_some {regs : Int} {q : Nat → Irx} {n i : Nat} (hi : i < n) (hj : ∀ j, j < i → oneM regs n (q j) j = 0) (hb : oneM regs n (q i) i ≠ 0) : firstM regs q n = some i := by
  unfold firstM
  rw [List.find?_range_eq_some]
  exact ⟨bne_iff_ne.2 hb, List.mem_range.2 hi, fun j hji => by simp [hj j hji]⟩
theorem firstM_none {regs : Int} {q : Nat → Irx} {n : Nat} (h : ∀ j, j < n → oneM regs n (q j) j = 0) : firstM regs q n = none := by
  unfold firstM
  rw [List.find?_eq_none]
  intro x hx
  simp [h x (List.mem_range.1 hx)]
theorem firstM_none' {regs : Int} {q : Nat → Irx} {n : Nat} (h : firstM regs q n = none) : ∀ j, j < n → oneM regs n (q j) j = 0 := fun j hj => by
  unfold firstM at h
  rw [List.find?_eq_none] at h
  simpa using h j (List.mem_range.2 hj)
/-- What Check tells: the error, its place. -/
def chkE (regs : Int) (q : Nat → Irx) (n : Nat) : Int :=
  if regs < 1 ∨ 64 < regs then 121
  else if n = 0 ∨ 65536 < n then 122
  else match firstM regs q n with
    | some i => oneM regs n (q i) i
    | none => if (q (n - 1)).op = 19 then 0 else 127
def chkP (regs : Int) (q : Nat → Irx) (n : Nat) : Nat :=
  if regs < 1 ∨ 64 < regs then 0
  else if n = 0 ∨ 65536 < n then 0
  else match firstM regs q n with
    | some i => i
    | none => if (q (n - 1)).op = 19 then 0 else n - 1
structure RightM (regs : Int) (q : Nat → Irx) (n : Nat) : Prop where
  rg : 1 ≤ regs ∧ regs ≤ 64
  pos : 0 < n
  max : n ≤ 65536
  all : ∀ i, i < n → oneM regs n (q i) i = 0
  last : (q (n - 1)).op = 19
theorem chk_is {regs : Int} {q : Nat → Irx} {n : Nat} : chkE regs q n = 0 ↔ RightM regs q n := by
  unfold chkE
  constructor
  · intro h
    by_cases h1 : regs < 1 ∨ 64 < regs
    · rw [if_pos h1] at h; cases h
    rw [if_neg h1] at h
    by_cases h2 : n = 0 ∨ 65536 < n
    · rw [if_pos h2] at h; cases h
    rw [if_neg h2] at h
    cases hf : firstM regs q n with
    | some i =>
      rw [hf] at h
      have := List.find?_some hf
      simp only [bne_iff_ne] at this
      exact absurd h this
    | none =>
      rw [hf] at h
      simp only at h
      by_cases h3 : (q (n - 1)).op = 19
      · exact ⟨by omega, by omega, by omega, firstM_none' hf, h3⟩
      · rw [if_neg h3] at h; cases h
  · intro h
    rw [if_neg (by have := h.rg; omega), if_neg (by have := h.pos; have := h.max; omega), firstM_none h.all]
    simp only
    rw [if_pos h.last]
theorem chkP_zero {regs : Int} {q : Nat → Irx} {n : Nat} (h : RightM regs q n) : chkP regs q n = 0 := by
  unfold chkP
  rw [if_neg (by have := h.rg; omega), if_neg (by have := h.pos; have := h.max; omega), firstM_none h.all]
  simp only
  rw [if_pos h.last]
theorem RightM.one {regs : Int} {q : Nat → Irx} {n : Nat} (h : RightM regs q n) {i : Nat} (hi : i < n) : OneMOK regs n (q i) i := oneM_ok.1 (h.all i hi)

/-! ### Runs -/
def upd (r : Nat → BitVec 32) (i : Nat) (v : BitVec 32) : Nat → BitVec 32 := fun j => if j = i then v else r j
/-- What an instruction sets its register to. -/
def valM (word : Nat → BitVec 32) (x : Irx) (a b : BitVec 32) : BitVec 32 :=
  if x.op = 1 then x.k
  else if x.op = 3 then word x.k.toNat
  else if x.op = 4 then a + b
  else if x.op = 5 then a - b
  else if x.op = 6 then a * b
  else if x.op = 7 then a / b
  else if x.op = 8 then a &&& b
  else if x.op = 9 then a ||| b
  else if x.op = 10 then a ^^^ b
  else if x.op = 11 then a <<< (b.toNat % 32)
  else if x.op = 12 then a >>> (b.toNat % 32)
  else if x.op = 13 then -a
  else a
def saysM (op : Int) (a b : BitVec 32) : Bool :=
  if op = 15 then a == b
  else if op = 16 then decide (b.toNat < a.toNat)
  else if op = 17 then decide (b.toNat ≤ a.toNat)
  else a &&& b != 0#32
/-- An end: the answer, how many steps, the error, its place. -/
structure EndM where
  ans : BitVec 32
  n : Nat
  err : Int
  at_ : Nat
def EndM.more (s : EndM) : EndM := { s with n := s.n + 1 }
inductive StepM
  | stop (s : EndM)
  | on (at_ : Nat) (r : Nat → BitVec 32)
/-- One instruction at a place, the registers' words in homes. -/
def stepX (x : Irx) (h : Nat → Nat) (word : Nat → BitVec 32) (at_ : Nat) (r : Nat → BitVec 32) : StepM :=
  let va := if aM x.op = true then r (h x.a.toNat) else 0#32
  let vb := if bM x.op = true then r (h x.b.toNat) else 0#32
  if x.op = 19 then .stop ⟨va, 1, 0, 0⟩
  else if x.op = 7 ∧ vb = 0#32 then .stop ⟨0#32, 0, 8, at_⟩
  else .on (if x.op = 14 then x.t.toNat else if fM x.op = true then (if saysM x.op va vb = true then x.t.toNat else x.f.toNat) else at_ + 1)
    (if dM x.op = true then upd r (h x.d.toNat) (valM word x va vb) else r)
def stepM (q : Nat → Irx) (h : Nat → Nat) (word : Nat → BitVec 32) (at_ : Nat) (r : Nat → BitVec 32) : StepM := stepX (q at_) h word at_ r
def goM (q : Nat → Irx) (h : Nat → Nat) (word : Nat → BitVec 32) : Nat → Nat → (Nat → BitVec 32) → EndM
  | 0, _, _ => ⟨0#32, 0, 0, 0⟩
  | f + 1, at_, r => match stepM q h word at_ r with
    | .stop s => s
    | .on p r' => (goM q h word f p r').more
/-- A step of a program that is right goes ahead. -/
theorem step_ahead {regs : Int} {q : Nat → Irx} {n : Nat} (hR : RightM regs q n) (h : Nat → Nat) (word : Nat → BitVec 32) {at_ : Nat} (ha : at_ < n) (r : Nat → BitVec 32) {p : Nat} {r' : Nat → BitVec 32} (he : stepM q h word at_ r = .on p r') : at_ < p ∧ p < n := by
  have ho := hR.one ha
  unfold stepM stepX at he
  simp only at he
  by_cases h1 : (q at_).op = 19
  · rw [if_pos h1] at he; cases he
  rw [if_neg h1] at he
  by_cases h7 : (q at_).op = 7 ∧ (if bM (q at_).op = true then r (h (q at_).b.toNat) else 0#32) = 0#32
  · rw [if_pos h7] at he; cases he
  rw [if_neg h7] at he
  injection he with h2 h3
  have hop := ho.op
  subst h2
  by_cases h4 : (q at_).op = 14
  · rw [if_pos h4]
    have := ho.t (by simp [tM, h4])
    omega
  rw [if_neg h4]
  by_cases h5 : fM (q at_).op = true
  · rw [if_pos h5]
    have g1 := ho.t (by simp [fM] at h5; simp [tM]; omega)
    have g2 := ho.f h5
    generalize saysM (q at_).op _ _ = b
    cases b
    · show at_ < (q at_).f.toNat ∧ (q at_).f.toNat < n
      omega
    · show at_ < (q at_).t.toNat ∧ (q at_).t.toNat < n
      omega
  · rw [if_neg h5]
    refine ⟨by omega, ?_⟩
    rcases Nat.lt_or_ge (at_ + 1) n with g | g
    · exact g
    · have : at_ = n - 1 := by omega
      rw [this] at h1
      exact absurd hR.last h1
theorem go_enough {regs : Int} {q : Nat → Irx} {n : Nat} (hR : RightM regs q n) (h : Nat → Nat) (word : Nat → BitVec 32) : ∀ (f f' at_ : Nat) (r : Nat → BitVec 32), at_ < n → n - at_ ≤ f → n - at_ ≤ f' → goM q h word f at_ r = goM q h word f' at_ r
  | 0, _, _, _, ha, hf, _ => absurd hf (by omega)
  | _ + 1, 0, _, _, ha, _, hf => absurd hf (by omega)
  | f + 1, f' + 1, at_, r, ha, h1, h2 => by
    rw [goM, goM]
    cases he : stepM q h word at_ r with
    | stop s => rfl
    | on p r' =>
      have hp := step_ahead hR h word ha r he
      show (goM q h word f p r').more = (goM q h word f' p r').more
      rw [go_enough hR h word f f' p r' hp.2 (by omega) (by omega)]
/-- A run from a place. -/
def atM (q : Nat → Irx) (n : Nat) (h : Nat → Nat) (word : Nat → BitVec 32) (at_ : Nat) (r : Nat → BitVec 32) : EndM := goM q h word n at_ r
theorem at_stop {q : Nat → Irx} {n : Nat} {h : Nat → Nat} {word : Nat → BitVec 32} {at_ : Nat} (ha : at_ < n) {r : Nat → BitVec 32} {s : EndM} (he : stepM q h word at_ r = .stop s) : atM q n h word at_ r = s := by
  obtain ⟨m, rfl⟩ : ∃ m, n = m + 1 := ⟨n - 1, by omega⟩
  rw [atM, goM, he]
theorem at_on {regs : Int} {q : Nat → Irx} {n : Nat} (hR : RightM regs q n) {h : Nat → Nat} {word : Nat → BitVec 32} {at_ : Nat} (ha : at_ < n) {r : Nat → BitVec 32} {p : Nat} {r' : Nat → BitVec 32} (he : stepM q h word at_ r = .on p r') : atM q n h word at_ r = (atM q n h word p r').more := by
  have hp := step_ahead hR h word ha r he
  obtain ⟨m, rfl⟩ : ∃ m, n = m + 1 := ⟨n - 1, by omega⟩
  rw [atM, goM, he]
  show (goM q h word m p r').more = (goM q h word (m + 1) p r').more
  rw [go_enough hR h word m (m + 1) p r' hp.2 (by omega) (by omega)]
/-- P12.2. -/
theorem go_ends {regs : Int} {q : Nat → Irx} {n : Nat} (hR : RightM regs q n) (h : Nat → Nat) (word : Nat → BitVec 32) : ∀ (f at_ : Nat) (r : Nat → BitVec 32), at_ < n → n - at_ ≤ f →
    ((goM q h word f at_ r).err = 0 ∧ 1 ≤ (goM q h word f at_ r).n ∧ (goM q h word f at_ r).n + at_ ≤ n ∧ (goM q h word f at_ r).at_ = 0) ∨
    ((goM q h word f at_ r).err = 8 ∧ (goM q h word f at_ r).ans = 0#32 ∧ at_ + (goM q h word f at_ r).n ≤ (goM q h word f at_ r).at_ ∧ (goM q h word f at_ r).at_ < n ∧ (q (goM q h word f at_ r).at_).op = 7)
  | 0, _, _, ha, hf => absurd hf (by omega)
  | f + 1, at_, r, ha, hf => by
    rw [goM]
    cases he : stepM q h word at_ r with
    | stop s =>
      unfold stepM stepX at he
      simp only at he
      by_cases h1 : (q at_).op = 19
      · rw [if_pos h1] at he
        injection he with he
        subst he
        exact .inl ⟨rfl, Nat.le_refl _, by show 1 + at_ ≤ n; omega, rfl⟩
      · rw [if_neg h1] at he
        by_cases h2 : (q at_).op = 7 ∧ (if bM (q at_).op = true then r (h (q at_).b.toNat) else 0#32) = 0#32
        · rw [if_pos h2] at he
          injection he with he
          subst he
          exact .inr ⟨rfl, rfl, Nat.le_refl _, ha, h2.1⟩
        · rw [if_neg h2] at he; cases he
    | on p r' =>
      have hp := step_ahead hR h word ha r he
      show ((goM q h word f p r').err = 0 ∧ 1 ≤ (goM q h word f p r').n + 1 ∧ (goM q h word f p r').n + 1 + at_ ≤ n ∧ (goM q h word f p r').at_ = 0) ∨
        ((goM q h word f p r').err = 8 ∧ (goM q h word f p r').ans = 0#32 ∧ at_ + ((goM q h word f p r').n + 1) ≤ (goM q h word f p r').at_ ∧ (goM q h word f p r').at_ < n ∧ (q (goM q h word f p r').at_).op = 7)
      rcases go_ends hR h word f p r' hp.2 (by omega) with ⟨a1, a2, a3, a4⟩ | ⟨a1, a2, a3, a4, a5⟩
      · exact .inl ⟨a1, by omega, by omega, a4⟩
      · exact .inr ⟨a1, a2, by omega, a4, a5⟩
def zeroR : Nat → BitVec 32 := fun _ => 0#32
/-- What Run tells: of a program, data of so many bytes. -/
def runR (regs : Int) (q : Nat → Irx) (n len : Nat) (word : Nat → BitVec 32) : EndM :=
  if chkE regs q n ≠ 0 then ⟨0#32, 0, chkE regs q n, chkP regs q n⟩
  else if len ≠ 64 then ⟨0#32, 0, 21, 0⟩
  else atM q n (fun i => i) word 0 zeroR
/-! ### Fields that are not named -/
structure AlikeM (x y : Irx) : Prop where
  op : y.op = x.op
  d : dM x.op = true → y.d = x.d
  a : aM x.op = true → y.a = x.a
  b : bM x.op = true → y.b = x.b
  k : x.op = 1 ∨ x.op = 3 → y.k = x.k
  t : tM x.op = true → y.t = x.t
  f : fM x.op = true → y.f = x.f
theorem AlikeM.one {x y : Irx} (h : AlikeM x y) (regs : Int) (n i : Nat) : oneM regs n y i = oneM regs n x i := by
  have hd : (dM x.op = true ∧ (y.d < 0 ∨ regs ≤ y.d)) ↔ (dM x.op = true ∧ (x.d < 0 ∨ regs ≤ x.d)) := ⟨fun g => ⟨g.1, h.d g.1 ▸ g.2⟩, fun g => ⟨g.1, (h.d g.1).symm ▸ g.2⟩⟩
  have ha : (aM x.op = true ∧ (y.a < 0 ∨ regs ≤ y.a)) ↔ (aM x.op = true ∧ (x.a < 0 ∨ regs ≤ x.a)) := ⟨fun g => ⟨g.1, h.a g.1 ▸ g.2⟩, fun g => ⟨g.1, (h.a g.1).symm ▸ g.2⟩⟩
  have hb : (bM x.op = true ∧ (y.b < 0 ∨ regs ≤ y.b)) ↔ (bM x.op = true ∧ (x.b < 0 ∨ regs ≤ x.b)) := ⟨fun g => ⟨g.1, h.b g.1 ▸ g.2⟩, fun g => ⟨g.1, (h.b g.1).symm ▸ g.2⟩⟩
  have ht : (tM x.op = true ∧ (y.t ≤ (i : Int) ∨ (n : Int) ≤ y.t)) ↔ (tM x.op = true ∧ (x.t ≤ (i : Int) ∨ (n : Int) ≤ x.t)) := ⟨fun g => ⟨g.1, h.t g.1 ▸ g.2⟩, fun g => ⟨g.1, (h.t g.1).symm ▸ g.2⟩⟩
  have hf : (fM x.op = true ∧ (y.f ≤ (i : Int) ∨ (n : Int) ≤ y.f)) ↔ (fM x.op = true ∧ (x.f ≤ (i : Int) ∨ (n : Int) ≤ x.f)) := ⟨fun g => ⟨g.1, h.f g.1 ▸ g.2⟩, fun g => ⟨g.1, (h.f g.1).symm ▸ g.2⟩⟩
  have hk : (x.op = 3 ∧ (60 < y.k.toNat ∨ y.k.toNat % 4 ≠ 0)) ↔ (x.op = 3 ∧ (60 < x.k.toNat ∨ x.k.toNat % 4 ≠ 0)) := ⟨fun g => ⟨g.1, h.k (.inr g.1) ▸ g.2⟩, fun g => ⟨g.1, (h.k (.inr g.1)).symm ▸ g.2⟩⟩
  unfold oneM
  rw [h.op]
  simp only [hd, ha, hb, ht, hf, hk]
theorem alike_chk {q p : Nat → Irx} (h : ∀ i, AlikeM (q i) (p i)) (regs : Int) (n : Nat) : chkE regs p n = chkE regs q n ∧ chkP regs p n = chkP regs q n := by
  have hf : firstM regs p n = firstM regs q n := by
    unfold firstM
    congr 1
    funext i
    rw [(h i).one]
  unfold chkE chkP
  rw [hf, (h (n - 1)).op]
  refine ⟨?_, rfl⟩
  cases firstM regs q n with
  | none => rfl
  | some i => simp only [(h i).one]
theorem alike_step {q p : Nat → Irx} (h : ∀ i, AlikeM (q i) (p i)) (hm : Nat → Nat) (word : Nat → BitVec 32) (at_ : Nat) (r : Nat → BitVec 32) : stepM p hm word at_ r = stepM q hm word at_ r := by
  obtain ⟨ho, hd, ha, hb, hk, ht, hf⟩ := h at_
  unfold stepM stepX
  simp only
  rw [ho]
  have e1 : (if aM (q at_).op = true then r (hm (p at_).a.toNat) else 0#32) = (if aM (q at_).op = true then r (hm (q at_).a.toNat) else 0#32) := by
    by_cases g : aM (q at_).op = true
    · rw [if_pos g, if_pos g, ha g]
    · rw [if_neg g, if_neg g]
  have e2 : (if bM (q at_).op = true then r (hm (p at_).b.toNat) else 0#32) = (if bM (q at_).op = true then r (hm (q at_).b.toNat) else 0#32) := by
    by_cases g : bM (q at_).op = true
    · rw [if_pos g, if_pos g, hb g]
    · rw [if_neg g, if_neg g]
  rw [e1, e2]
  generalize (if aM (q at_).op = true then r (hm (q at_).a.toNat) else 0#32) = va
  generalize (if bM (q at_).op = true then r (hm (q at_).b.toNat) else 0#32) = vb
  have hv : valM word (p at_) va vb = valM word (q at_) va vb := by
    unfold valM
    rw [ho]
    by_cases g1 : (q at_).op = 1
    · rw [if_pos g1, if_pos g1, hk (.inl g1)]
    rw [if_neg g1, if_neg g1]
    by_cases g3 : (q at_).op = 3
    · rw [if_pos g3, if_pos g3, hk (.inr g3)]
    rw [if_neg g3, if_neg g3]
  have hd' : (if dM (q at_).op = true then upd r (hm (p at_).d.toNat) (valM word (p at_) va vb) else r) = (if dM (q at_).op = true then upd r (hm (q at_).d.toNat) (valM word (q at_) va vb) else r) := by
    by_cases g : dM (q at_).op = true
    · rw [if_pos g, if_pos g, hd g, hv]
    · rw [if_neg g, if_neg g]
  rw [hd']
  by_cases g14 : (q at_).op = 14
  · rw [if_pos g14, if_pos g14, ht (by simp [tM, g14])]
  rw [if_neg g14, if_neg g14]
  by_cases g15 : fM (q at_).op = true
  · rw [ht (by simp [fM] at g15; simp [tM]; omega), hf g15]
  · rw [if_neg g15, if_neg g15]
end Go.Proofs.YtoajommeiocfpaaDoor
