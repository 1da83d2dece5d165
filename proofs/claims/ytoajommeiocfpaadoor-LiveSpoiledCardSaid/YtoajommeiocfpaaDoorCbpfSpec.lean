/-
  Classic BPF as plain functions: an instruction, a machine, a step. No condition: nothing here speaks of a program.
-/
import Derived.Test.YtoajommeiocfpaaDoorBits32
namespace Go.Proofs.YtoajommeiocfpaaDoor
open Go
set_option linter.unusedSimpArgs false

/-- An instruction. -/
structure Ins where
  code : Int
  jt : Nat
  jf : Nat
  k : BitVec 32
def Ins.OK (x : Ins) : Prop := 0 ≤ x.code ∧ x.code < 65536 ∧ x.jt < 256 ∧ x.jf < 256

def aluL : List Int := [4, 20, 36, 52, 68, 84, 100, 116, 164, 12, 28, 44, 60, 76, 92, 108, 124, 172]
def jumpL : List Int := [21, 37, 53, 69, 29, 45, 61, 77]
def restL : List Int := [32, 128, 129, 0, 1, 96, 97, 2, 3, 132, 5, 6, 22, 7, 135]
def aluC (c : Int) : Bool := aluL.contains c
def jumpC (c : Int) : Bool := jumpL.contains c
def restC (c : Int) : Bool := restL.contains c
def sealsC (c : Int) : Bool := aluC c || jumpC c || restC c

/-- Of two numbers, by the operation's high half. -/
def twoN : Int → BitVec 32 → BitVec 32 → BitVec 32
  | 0, a, b => a + b
  | 16, a, b => a - b
  | 32, a, b => a * b
  | 48, a, b => a / b
  | 64, a, b => a ||| b
  | 80, a, b => a &&& b
  | 96, a, b => a <<< (b.toNat % 32)
  | 112, a, b => a >>> (b.toNat % 32)
  | _, a, b => a ^^^ b
/-- A code's operation: its bits 4 to 7. -/
def opN (c : Int) : Int := c / 16 % 16 * 16
def saysN : Int → BitVec 32 → BitVec 32 → Bool
  | 16, a, b => a == b
  | 32, a, b => decide (b.toNat < a.toNat)
  | 48, a, b => decide (b.toNat ≤ a.toNat)
  | _, a, b => a &&& b != 0#32
theorem alu_cases {c : Int} (h : aluC c = true) : c = 4 ∨ c = 20 ∨ c = 36 ∨ c = 52 ∨ c = 68 ∨ c = 84 ∨ c = 100 ∨ c = 116 ∨ c = 164 ∨ c = 12 ∨ c = 28 ∨ c = 44 ∨ c = 60 ∨ c = 76 ∨ c = 92 ∨ c = 108 ∨ c = 124 ∨ c = 172 := by
  simpa [aluC, aluL] using h
theorem jump_cases {c : Int} (h : jumpC c = true) : c = 21 ∨ c = 37 ∨ c = 53 ∨ c = 69 ∨ c = 29 ∨ c = 45 ∨ c = 61 ∨ c = 77 := by
  simpa [jumpC, jumpL] using h
theorem rest_cases {c : Int} (h : restC c = true) : c = 32 ∨ c = 128 ∨ c = 129 ∨ c = 0 ∨ c = 1 ∨ c = 96 ∨ c = 97 ∨ c = 2 ∨ c = 3 ∨ c = 132 ∨ c = 5 ∨ c = 6 ∨ c = 22 ∨ c = 7 ∨ c = 135 := by
  simpa [restC, restL] using h

/-- What keeps an instruction from being done: an error's number, or 0. -/
def wrongE (c : Int) (k : BitVec 32) : Int :=
  if sealsC c = false then 32
  else if c = 32 ∧ (60 < k.toNat ∨ k.toNat % 4 ≠ 0) then 34
  else if (c = 96 ∨ c = 97 ∨ c = 2 ∨ c = 3) ∧ 15 < k.toNat then 35
  else if c = 52 ∧ k = 0#32 then 36
  else 0

/-- A machine. -/
structure Mach where
  a : BitVec 32
  x : BitVec 32
  m : Nat → BitVec 32
  place : Nat
  steps : Nat
  done : Bool
  ans : BitVec 32
  err : Int
def Mach.start : Mach := ⟨0#32, 0#32, fun _ => 0#32, 0, 0, false, 0#32, 0⟩
/-- Through, with an error. -/
def Mach.fails (s : Mach) (e : Int) : Mach := { s with done := true, err := e }
/-- Through, with an answer. -/
def Mach.ends (s : Mach) (w : BitVec 32) : Mach := { s with done := true, ans := w, steps := s.steps + 1 }
/-- On, so many places. -/
def Mach.on (s : Mach) (n : Nat) : Mach := { s with place := s.place + n, steps := s.steps + 1 }
/-- Loads, stores and the like. 'word' is the data's word at a place. -/
def Mach.moves (word : Nat → BitVec 32) (s : Mach) (i : Ins) : Mach :=
  if i.code = 32 then { s with a := word i.k.toNat }
  else if i.code = 128 then { s with a := 64#32 }
  else if i.code = 129 then { s with x := 64#32 }
  else if i.code = 0 then { s with a := i.k }
  else if i.code = 1 then { s with x := i.k }
  else if i.code = 96 then { s with a := s.m i.k.toNat }
  else if i.code = 97 then { s with x := s.m i.k.toNat }
  else if i.code = 2 then { s with m := fun j => if j = i.k.toNat then s.a else s.m j }
  else if i.code = 3 then { s with m := fun j => if j = i.k.toNat then s.x else s.m j }
  else if i.code = 132 then { s with a := -s.a }
  else if i.code = 7 then { s with x := s.a }
  else if i.code = 135 then { s with a := s.x }
  else s
/-- Has it X for its second number? -/
def usesX (c : Int) : Bool := c / 8 % 2 == 1
/-- An instruction that nothing keeps from being done. -/
def Mach.does (word : Nat → BitVec 32) (s : Mach) (i : Ins) : Mach :=
  let b := if usesX i.code then s.x else i.k
  if aluC i.code then (if i.code = 60 ∧ b = 0#32 then s.ends 0#32 else Mach.on { s with a := twoN (opN i.code) s.a b } 1)
  else if jumpC i.code then s.on (1 + (if saysN (opN i.code) s.a b then i.jt else i.jf))
  else if i.code = 5 then s.on (1 + i.k.toNat)
  else if i.code = 6 then s.ends i.k
  else if i.code = 22 then s.ends s.a
  else (s.moves word i).on 1
/-- A step: over n instructions q, and data of len bytes whose words are 'word'. -/
def Mach.step (q : Nat → Ins) (n : Nat) (len : Nat) (word : Nat → BitVec 32) (s : Mach) : Mach :=
  if s.done then s
  else if len ≠ 64 then s.fails 21
  else if n ≤ s.place then s.fails 33
  else if wrongE (q s.place).code (q s.place).k ≠ 0 then s.fails (wrongE (q s.place).code (q s.place).k)
  else s.does word (q s.place)
end Go.Proofs.YtoajommeiocfpaaDoor
