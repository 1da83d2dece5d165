/-
  Classic BPF as plain functions: an instruction, a machine, a step. No condition: nothing here speaks of a program. What keeps an instruction of classic BPF from being done: the document's 'wrong', a contract for every instruction. No condition. The document's machine of classic BPF in memory: its 25 cells, what a store into each leaves, and what its small methods do: contracts. Conditions: those that each names. What the document's 'moves' of classic BPF does to its machine: a contract for each of its twelve operations. Conditions: those that each names. What the document's Step of classic BPF does to its machine: a contract, for every program and all data. Conditions: those that it names. What the document's Step of classic BPF does to its machine where nothing stops it ahead of the instruction: a contract. Conditions: those that it names. What the document's Step of classic BPF does to its machine: one contract for every program and all data. Conditions: Ready's. A program of classic BPF from its start to its end, by the document: as plain functions, and what New, Answer and Run answer. Conditions: those that each names. The document's Same of two programs of classic BPF that are the same: a contract. Conditions: those that it names.
-/
import Derived.Test.YtgpjiflgocgolaaBits32
import Derived.Test.YtgpjiflgocgolaaChecked
import Derived.WalkSpells
import Derived.WalkLawsBesides
import Derived.Lib.Hide
import Derived.Test.YtgpjiflgocgolaaMemory
import Derived.Test.YtgpjiflgocgolaaRegion
import Derived.Test.YtgpjiflgocgolaaSecRead
import Derived.StillTailTactics
import Derived.WalkKit
import Derived.Laws.StructEq
import Derived.KernelRfl
import Derived.Below
namespace Go.Proofs.Ytgpjiflgocgolaa
open Go
set_option linter.unusedSimpArgs false

/-- An instruction. -/
structure Ins where
  code : Int
  jt : Nat
  jf : Nat
  k : BitVec 32
def Ins.OK (x : Ins) : Prop := 0 ≤ x.code ∧ x.code < 65536 ∧ x.jt < 256 ∧ x.jf < 256

def aluL : List Int := [4, 20, 36, 52, 68, 84, 100, 116, 164, 12, 28, 44, 60, 76, 92, 108, 124, 172]
def jumpL : List Int := [21, 37, 53, 69, 29, 45, 61, 77]
def restL : List Int := [32, 128, 129, 0, 1, 96, 97, 2, 3, 132, 5, 6, 22, 7, 135]
def aluC (c : Int) : Bool := aluL.contains c
def jumpC (c : Int) : Bool := jumpL.contains c
def restC (c : Int) : Bool := restL.contains c
def sealsC (c : Int) : Bool := aluC c || jumpC c || restC c

/-- Of two numbers, by the operation's high half. -/
def twoN : Int → BitVec 32 → BitVec 32 → BitVec 32
  | 0, a, b => a + b
  | 16, a, b => a - b
  | 32, a, b => a * b
  | 48, a, b => a / b
  | 64, a, b => a ||| b
  | 80, a, b => a &&& b
  | 96, a, b => a <<< (b.toNat % 32)
  | 112, a, b => a >>> (b.toNat % 32)
  | _, a, b => a ^^^ b
/-- A code's operation: its bits 4 to 7. -/
def opN (c : Int) : Int := c / 16 % 16 * 16
def saysN : Int → BitVec 32 → BitVec 32 → Bool
  | 16, a, b => a == b
  | 32, a, b => decide (b.toNat < a.toNat)
  | 48, a, b => decide (b.toNat ≤ a.toNat)
  | _, a, b => a &&& b != 0#32
theorem alu_cases {c : Int} (h : aluC c = true) : c = 4 ∨ c = 20 ∨ c = 36 ∨ c = 52 ∨ c = 68 ∨ c = 84 ∨ c = 100 ∨ c = 116 ∨ c = 164 ∨ c = 12 ∨ c = 28 ∨ c = 44 ∨ c = 60 ∨ c = 76 ∨ c = 92 ∨ c = 108 ∨ c = 124 ∨ c = 172 := by
  simpa [aluC, aluL] using h
theorem jump_cases {c : Int} (h : jumpC c = true) : c = 21 ∨ c = 37 ∨ c = 53 ∨ c = 69 ∨ c = 29 ∨ c = 45 ∨ c = 61 ∨ c = 77 := by
  simpa [jumpC, jumpL] using h
theorem rest_cases {c : Int} (h : restC c = true) : c = 32 ∨ c = 128 ∨ c = 129 ∨ c = 0 ∨ c = 1 ∨ c = 96 ∨ c = 97 ∨ c = 2 ∨ c = 3 ∨ c = 132 ∨ c = 5 ∨ c = 6 ∨ c = 22 ∨ c = 7 ∨ c = 135 := by
  simpa [restC, restL] using h

/-- What keeps an instruction from being done: an error's number, or 0. -/
def wrongE (c : Int) (k : BitVec 32) : Int :=
  if sealsC c = false then 32
  else if c = 32 ∧ (60 < k.toNat ∨ k.toNat % 4 ≠ 0) then 34
  else if (c = 96 ∨ c = 97 ∨ c = 2 ∨ c = 3) ∧ 15 < k.toNat then 35
  else if c = 52 ∧ k = 0#32 then 36
  else 0

/-- A machine. -/
structure Mach where
  a : BitVec 32
  x : BitVec 32
  m : Nat → BitVec 32
  place : Nat
  steps : Nat
  done : Bool
  ans : BitVec 32
  err : Int
def Mach.start : Mach := ⟨0#32, 0#32, fun _ => 0#32, 0, 0, false, 0#32, 0⟩
/-- Through, with an error. -/
def Mach.fails (s : Mach) (e : Int) : Mach := { s with done := true, err := e }
/-- Through, with an answer. -/
def Mach.ends (s : Mach) (w : BitVec 32) : Mach := { s with done := true, ans := w, steps := s.steps + 1 }
/-- On, so many places. -/
def Mach.on (s : Mach) (n : Nat) : Mach := { s with place := s.place + n, steps := s.steps + 1 }
/-- Loads, stores and the like. 'word' is the data's word at a place. -/
def Mach.moves (word : Nat → BitVec 32) (s : Mach) (i : Ins) : Mach :=
  if i.code = 32 then { s with a := word i.k.toNat }
  else if i.code = 128 then { s with a := 64#32 }
  else if i.code = 129 then { s with x := 64#32 }
  else if i.code = 0 then { s with a := i.k }
  else if i.code = 1 then { s with x := i.k }
  else if i.code = 96 then { s with a := s.m i.k.toNat }
  else if i.code = 97 then { s with x := s.m i.k.toNat }
  else if i.code = 2 then { s with m := fun j => if j = i.k.toNat then s.a else s.m j }
  else if i.code = 3 then { s with m := fun j => if j = i.k.toNat then s.x else s.m j }
  else if i.code = 132 then { s with a := -s.a }
  else if i.code = 7 then { s with x := s.a }
  else if i.code = 135 then { s with a := s.x }
  else s
/-- Has it X for its second number? -/
def usesX (c : Int) : Bool := c / 8 % 2 == 1
/-- An instruction that nothing keeps from being done. -/
def Mach.does (word : Nat → BitVec 32) (s : Mach) (i : Ins) : Mach :=
  let b := if usesX i.code then s.x else i.k
  if aluC i.code then (if i.code = 60 ∧ b = 0#32 then s.ends 0#32 else Mach.on { s with a := twoN (opN i.code) s.a b } 1)
  else if jumpC i.code then s.on (1 + (if saysN (opN i.code) s.a b then i.jt else i.jf))
  else if i.code = 5 then s.on (1 + i.k.toNat)
  else if i.code = 6 then s.ends i.k
  else if i.code = 22 then s.ends s.a
  else (s.moves word i).on 1
/-- A step: over n instructions q, and data of len bytes whose words are 'word'. -/
def Mach.step (q : Nat → Ins) (n : Nat) (len : Nat) (word : Nat → BitVec 32) (s : Mach) : Mach :=
  if s.done then s
  else if len ≠ 64 then s.fails 21
  else if n ≤ s.place then s.fails 33
  else if wrongE (q s.place).code (q s.place).k ≠ 0 then s.fails (wrongE (q s.place).code (q s.place).k)
  else s.does word (q s.place)
end Go.Proofs.Ytgpjiflgocgolaa
namespace Go.Proofs.Ytgpjiflgocgolaa
open Go Go.RowKit
set_option linter.unusedSimpArgs false
set_option linter.unusedVariables false

theorem box_below (w : World) (o : Obj) : Below w.heap.size w (w.alloc o) := (Below.refl _ _).alloc (Nat.le_refl _) o
end Go.Proofs.Ytgpjiflgocgolaa
namespace Go.Proofs.Ytgpjiflgocgolaa
open Go Go.RowKit
set_option linter.unusedSimpArgs false
set_option linter.unusedVariables false

theorem lt_zero {p : Nat → Prop} : ∀ i, i < 0 → p i := fun i hi => absurd hi (Nat.not_lt_zero i)
theorem lt_more {n : Nat} {p : Nat → Prop} (h : ∀ i, i < n → p i) (hn : p n) : ∀ i, i < n + 1 → p i := fun i hi => by
  rcases Nat.lt_or_ge i n with g | g
  · exact h i g
  · obtain rfl : i = n := by omega
    exact hn
theorem grown_cell {w w' : World} {b : Nat} (h : w.grownBy w' (some b)) (i : Nat) (u : Value) : w.grownBy (w'.setCell ⟨b, i, none⟩ u) (some b) := grown_set h i u

end Go.Proofs.Ytgpjiflgocgolaa
namespace Go.Proofs.Ytgpjiflgocgolaa
open Go Go.RowKit
set_option linter.unusedSimpArgs false
set_option linter.unusedVariables false

/-- The words of 64 bytes. -/
def wordZ (z : Nat → Int) (p : Nat) : BitVec 32 := BitVec.ofNat 32 (w4 z p).toNat
theorem wordZ_nat {z : Nat → Int} (hz : ∀ i, 0 ≤ z i ∧ z i < 256) (p : Nat) : ((wordZ z p).toNat : Int) = w4 z p := by
  have := w4_bd hz p
  rw [wordZ, BitVec.toNat_ofNat]; omega

section
variable (w : World) (b : Nat) (qv dv : Value) (s : Mach) (jt jf : Nat) (k : BitVec 32)

end

end Go.Proofs.Ytgpjiflgocgolaa
namespace Go.Proofs.Ytgpjiflgocgolaa
open Go Go.RowKit
set_option linter.unusedSimpArgs false
set_option linter.unusedVariables false

/-- Instruction i's four cells. -/
def InsCells (w : World) (b o : Nat) (i : Ins) : Prop := w.cell? ⟨b, o, none⟩ = some (.int .u16 i.code) ∧ w.cell? ⟨b, o + 1, none⟩ = some (.int .u8 (i.jt : Int)) ∧ w.cell? ⟨b, o + 2, none⟩ = some (.int .u8 (i.jf : Int)) ∧ w.cell? ⟨b, o + 3, none⟩ = some (.int .u32 (i.k.toNat : Int))
theorem InsCells.below {w w' : World} {B b o : Nat} {i : Ins} (h : InsCells w b o i) (hb : Below B w w') (hlt : b < B) : InsCells w' b o i :=
  ⟨(hb.cell (p := ⟨b, o, none⟩) hlt).trans h.1, (hb.cell (p := ⟨b, o + 1, none⟩) hlt).trans h.2.1, (hb.cell (p := ⟨b, o + 2, none⟩) hlt).trans h.2.2.1, (hb.cell (p := ⟨b, o + 3, none⟩) hlt).trans h.2.2.2⟩
theorem InsCells.grown {w w' : World} {b g o : Nat} {i : Ins} (h : InsCells w b o i) (hb : w.grownBy w' (some g)) (hne : b ≠ g) : InsCells w' b o i :=
  have hn : some b ≠ some g := fun e => hne (by injection e)
  ⟨hb.cell h.1 hn, hb.cell h.2.1 hn, hb.cell h.2.2.1 hn, hb.cell h.2.2.2 hn⟩
/-- A program's n instructions lie from A on. -/
def ProgAt (w : World) (A : Option Addr) (n : Nat) (q : Nat → Ins) : Prop := 0 < n → ∃ qb qo, A = some ⟨qb, qo, none⟩ ∧ qb < w.heap.size ∧ ∀ i, i < n → InsCells w qb (qo + i * 4) (q i)
theorem ProgAt.below {w w' : World} {A : Option Addr} {n : Nat} {q : Nat → Ins} (h : ProgAt w A n q) (hb : Below w.heap.size w w') : ProgAt w' A n q := fun hn => by
  obtain ⟨qb, qo, rfl, hl, hc⟩ := h hn
  exact ⟨qb, qo, rfl, Nat.lt_of_lt_of_le hl hb.size, fun i hi => (hc i hi).below hb hl⟩
theorem ProgAt.grown {w w' : World} {A : Option Addr} {n g : Nat} {q : Nat → Ins} (h : ProgAt w A n q) (hb : w.grownBy w' (some g)) (hne : ∀ ad, 0 < n → A = some ad → ad.block ≠ g) : ProgAt w' A n q := fun hn => by
  obtain ⟨qb, qo, rfl, hl, hc⟩ := h hn
  exact ⟨qb, qo, rfl, Nat.lt_of_lt_of_le hl hb.size, fun i hi => (hc i hi).grown hb (hne _ hn rfl)⟩

section
variable (w : World) (b : Nat) (qa : Option Addr) (n qcap : Nat) (q : Nat → Ins) (da : Option Addr) (dlen dcap : Nat) (z : Nat → Int) (s : Mach)

end
end Go.Proofs.Ytgpjiflgocgolaa
namespace Go.Proofs.Ytgpjiflgocgolaa
open Go Go.RowKit
set_option linter.unusedSimpArgs false
set_option linter.unusedVariables false

/-- An instruction's four values. -/
def insF (i : Ins) : Nat → Value
  | 0 => .int .u16 i.code
  | 1 => .int .u8 (i.jt : Int)
  | 2 => .int .u8 (i.jf : Int)
  | _ => .int .u32 (i.k.toNat : Int)
theorem ins_new (w : World) : (w.alloc (.cells #[.int .u16 0, .int .u8 0, .int .u8 0, .int .u32 0] 50)).rowIs w.heap.size 50 4 (insF ⟨0, 0, 0, 0#32⟩) :=
  World.rowIs_alloc w #[.int .u16 0, .int .u8 0, .int .u8 0, .int .u32 0] 50 _ (fun i hi => by
    rcases i with _ | _ | _ | _ | i
    · rfl
    · rfl
    · rfl
    · rfl
    · exact absurd hi (by simp))
theorem ins_set {w : World} {g : Nat} {i : Ins} (h : w.rowIs g 50 4 (insF i)) (c : Int) (jt jf : Nat) (k : BitVec 32) :
    ((((w.setCell ⟨g, 0, none⟩ (.int .u16 c)).setCell ⟨g, 1, none⟩ (.int .u8 (jt : Int))).setCell ⟨g, 2, none⟩ (.int .u8 (jf : Int))).setCell ⟨g, 3, none⟩ (.int .u32 (k.toNat : Int))).rowIs g 50 4 (insF ⟨c, jt, jf, k⟩) :=
  ((((World.rowIs.set h 0 _).set 1 _).set 2 _).set 3 _).congr (by
    iterate 4 (refine lt_more ?_ rfl)
    exact lt_zero)
theorem ins_grown {a w : World} {g : Nat} (h : a.grownBy w (some g)) (u0 u1 u2 u3 : Value) : a.grownBy ((((w.setCell ⟨g, 0, none⟩ u0).setCell ⟨g, 1, none⟩ u1).setCell ⟨g, 2, none⟩ u2).setCell ⟨g, 3, none⟩ u3) (some g) :=
  grown_set (grown_set (grown_set (grown_set h 0 _) 1 _) 2 _) 3 _

theorem moves_keeps (word : Nat → BitVec 32) (s : Mach) (i : Ins) : (s.moves word i).place = s.place ∧ (s.moves word i).steps = s.steps := by
  exact ⟨by simp only [Mach.moves, apply_ite Mach.place, ite_self], by simp only [Mach.moves, apply_ite Mach.steps, ite_self]⟩

section
variable (w : World) (b qb qo n qcap db doff dcap : Nat) (z : Nat → Int) (s : Mach) (c : Int) (jt jf : Nat) (k : BitVec 32)

end
end Go.Proofs.Ytgpjiflgocgolaa
namespace Go.Proofs.Ytgpjiflgocgolaa
open Go Go.RowKit
set_option linter.unusedSimpArgs false
set_option linter.unusedVariables false

theorem seals_three {c : Int} {k : BitVec 32} (h : wrongE c k = 0) : aluC c = true ∨ (aluC c = false ∧ jumpC c = true) ∨ (aluC c = false ∧ jumpC c = false ∧ restC c = true) := by
  rcases ha : aluC c with _ | _
  · rcases hj : jumpC c with _ | _
    · rcases hr : restC c with _ | _
      · rw [wrongE, if_pos (by rw [sealsC, ha, hj, hr]; rfl)] at h; cases h
      · exact .inr (.inr ⟨rfl, rfl, rfl⟩)
    · exact .inr (.inl ⟨rfl, rfl⟩)
  · exact .inl rfl
theorem wrong_52 {k : BitVec 32} (h : wrongE 52 k = 0) : k ≠ 0#32 := fun hk => by
  subst hk; exact absurd h (by decide)
theorem usesX_60 : usesX 60 = true := rfl

end Go.Proofs.Ytgpjiflgocgolaa
namespace Go.Proofs.Ytgpjiflgocgolaa
open Go Go.RowKit
set_option linter.unusedSimpArgs false
set_option linter.unusedVariables false

section
variable (q : Nat → Ins) (n len : Nat) (word : Nat → BitVec 32)
/-- Behind k steps. -/
def iterS : Nat → Mach
  | 0 => Mach.start
  | k + 1 => (iterS k).step q n len word
theorem step_of_done (s : Mach) (h : s.done = true) : s.step q n len word = s := by simp [Mach.step, h]
theorem step_going (s : Mach) (h : (s.step q n len word).done = false) : s.done = false ∧ s.place < n ∧ s.place < (s.step q n len word).place ∧ (s.step q n len word).steps = s.steps + 1 := by
  rcases hd : s.done with _ | _
  · by_cases hl : len = 64
    · by_cases hp : n ≤ s.place
      · rw [show s.step q n len word = s.fails 33 by simp [Mach.step, hd, hl, hp]] at h; cases h
      · by_cases hw : wrongE (q s.place).code (q s.place).k = 0
        · have e : s.step q n len word = s.does word (q s.place) := by simp [Mach.step, hd, hl, hp, hw]
          rw [e] at h ⊢
          refine ⟨rfl, by omega, ?_⟩
          have on : ∀ (s' : Mach) m, s'.place = s.place → s'.steps = s.steps → 1 ≤ m → s.place < (s'.on m).place ∧ (s'.on m).steps = s.steps + 1 := fun s' m h1 h2 h3 => by
            show s.place < s'.place + m ∧ s'.steps + 1 = s.steps + 1
            omega
          unfold Mach.does at h ⊢
          simp only at h ⊢
          rcases ha : aluC (q s.place).code with _ | _
          · rw [ha] at h
            simp only [Bool.false_eq_true, if_false] at h ⊢
            rcases hj : jumpC (q s.place).code with _ | _
            · rw [hj] at h
              simp only [Bool.false_eq_true, if_false] at h ⊢
              by_cases h5 : (q s.place).code = 5
              · rw [if_pos h5]; exact on _ _ rfl rfl (by omega)
              · rw [if_neg h5] at h ⊢
                by_cases h6 : (q s.place).code = 6
                · rw [if_pos h6] at h; cases h
                · rw [if_neg h6] at h ⊢
                  by_cases h22 : (q s.place).code = 22
                  · rw [if_pos h22] at h; cases h
                  · rw [if_neg h22]
                    have hk := moves_keeps word s (q s.place)
                    exact on _ _ hk.1 hk.2 (by omega)
            · simp only [if_true]
              exact on _ _ rfl rfl (by omega)
          · rw [ha] at h
            simp only [if_true] at h ⊢
            by_cases h6 : (q s.place).code = 60 ∧ (if usesX (q s.place).code = true then s.x else (q s.place).k) = 0#32
            · rw [if_pos h6] at h; cases h
            · rw [if_neg h6]; exact on _ _ rfl rfl (by omega)
        · rw [show s.step q n len word = s.fails (wrongE (q s.place).code (q s.place).k) by simp [Mach.step, hd, hl, hp, hw]] at h; cases h
    · rw [show s.step q n len word = s.fails 21 by simp [Mach.step, hd, hl]] at h; cases h
  · rw [step_of_done q n len word s hd, hd] at h; cases h
theorem step_steps (s : Mach) : (s.step q n len word).steps ≤ s.steps + 1 := by
  have h1 : ∀ e, (s.fails e).steps ≤ s.steps + 1 := fun e => by show s.steps ≤ _; omega
  have h2 : ∀ v, (s.ends v).steps ≤ s.steps + 1 := fun v => Nat.le_refl _
  have h3 : ∀ (s' : Mach) m, s'.steps = s.steps → (s'.on m).steps ≤ s.steps + 1 := fun s' m e => by show s'.steps + 1 ≤ _; omega
  unfold Mach.step
  split
  · omega
  · split
    · exact h1 _
    · split
      · exact h1 _
      · split
        · exact h1 _
        · unfold Mach.does
          simp only
          generalize (if usesX (q s.place).code = true then s.x else (q s.place).k) = bv
          split
          · split
            · exact h2 _
            · exact h3 _ _ rfl
          · split
            · exact h3 _ _ rfl
            · split
              · exact h3 _ _ rfl
              · split
                · exact h2 _
                · split
                  · exact h2 _
                  · exact h3 _ _ (moves_keeps word s _).2
theorem iter_steps : ∀ k, (iterS q n len word k).steps ≤ k
  | 0 => Nat.le_refl _
  | k + 1 => by have := iter_steps k; have := step_steps q n len word (iterS q n len word k); show ((iterS q n len word k).step q n len word).steps ≤ _; omega
theorem iter_going : ∀ k, (iterS q n len word k).done = false → k ≤ (iterS q n len word k).place ∧ k ≤ n ∧ (iterS q n len word k).steps = k
  | 0, _ => ⟨Nat.zero_le _, Nat.zero_le _, rfl⟩
  | k + 1, h => by
    obtain ⟨h1, h2, h3, h4⟩ := step_going q n len word _ h
    obtain ⟨g1, g2, g3⟩ := iter_going k h1
    show k + 1 ≤ ((iterS q n len word k).step q n len word).place ∧ k + 1 ≤ n ∧ ((iterS q n len word k).step q n len word).steps = k + 1
    omega
/-- A program's end. -/
def runM : Mach := iterS q n len word (n + 1)
theorem iter_stays {k : Nat} (h : (iterS q n len word k).done = true) : ∀ m, iterS q n len word (k + m) = iterS q n len word k
  | 0 => rfl
  | m + 1 => by
    show (iterS q n len word (k + m)).step q n len word = _
    rw [iter_stays h m]; exact step_of_done q n len word _ h
theorem iter_is_run {k : Nat} (h : (iterS q n len word k).done = true) (hk : k ≤ n + 1) : iterS q n len word k = runM q n len word := by
  have := iter_stays q n len word h (n + 1 - k)
  rw [show k + (n + 1 - k) = n + 1 by omega] at this
  exact this.symm
end

/-- What a machine answers. -/
def ansA (s : Mach) : Int := if s.err = 0 then (s.ans.toNat : Int) else 0
def ansP (s : Mach) : Int := if s.err = 0 then 0 else (s.place : Int)
abbrev ansV (s : Mach) : Value := .tuple #[.int .u32 (ansA s), .int .i64 (s.steps : Int), .int .i64 s.err, .int .i64 (ansP s)]
theorem results_tmp4 {fn : Func} {t u v x : Tmp} (h : fn.results = #[.tmp t, .tmp u, .tmp v, .tmp x]) (tmps : Array Value) (P : Program) (w : World) :
    (results fn tmps).run P w = .ok (.tuple #[tmps.getD t undef, tmps.getD u undef, tmps.getD v undef, tmps.getD x undef]) w := by
  simp [results, h]
/-- A program and its data, ahead of a run. -/
structure Lies (w : World) (qa : Option Addr) (n : Nat) (q : Nat → Ins) (da : Option Addr) (dlen : Nat) (z : Nat → Int) : Prop where
  prog : ProgAt w qa n q
  data : dlen = 64 → ∃ db doff, da = some ⟨db, doff, none⟩ ∧ Bytes64 w db doff z
  len : n ≤ 140737488351232
  ok : ∀ i, i < n → (q i).OK
theorem Lies.below {w w' : World} {qa : Option Addr} {n : Nat} {q : Nat → Ins} {da : Option Addr} {dlen : Nat} {z : Nat → Int} (h : Lies w qa n q da dlen z) (hb : Below w.heap.size w w') : Lies w' qa n q da dlen z :=
  ⟨h.prog.below hb, fun h64 => by
    obtain ⟨db, doff, rfl, hz⟩ := h.data h64
    exact ⟨db, doff, rfl, hz.below hb hz.1⟩, h.len, h.ok⟩
end Go.Proofs.Ytgpjiflgocgolaa
namespace Go.Proofs.Ytgpjiflgocgolaa
open Go Go.RowKit
set_option linter.unusedSimpArgs false
set_option linter.unusedVariables false

theorem ProgAt.drawn {w : World} {A : Option Addr} {n : Nat} {q : Nat → Ins} (h : ProgAt w A n q) (m : Nat) : ProgAt (w.drewN m) A n q := h
end Go.Proofs.Ytgpjiflgocgolaa
