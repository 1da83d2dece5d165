/-
  What policies say, as plain functions: architectures, calls and their numbers, actions, which expressions and policies may be, what they say of data. No condition: nothing here speaks of a program of Go's.
-/
import Derived.Test.YtgeapkjegemkeaaDoorPolPure
namespace Go.Proofs.YtgeapkjegemkeaaDoor
set_option linter.unusedSimpArgs false
set_option linter.unusedVariables false

def bX86 : ByteArray := ⟨#[120, 56, 54, 95, 54, 52]⟩
def bRv : ByteArray := ⟨#[114, 105, 115, 99, 118, 54, 52]⟩
def bArm : ByteArray := ⟨#[97, 97, 114, 99, 104, 54, 52]⟩
def oldT : List (ByteArray × Nat) := [(⟨#[114, 101, 97, 100]⟩, 0), (⟨#[119, 114, 105, 116, 101]⟩, 1), (⟨#[111, 112, 101, 110]⟩, 2), (⟨#[99, 108, 111, 115, 101]⟩, 3), (⟨#[115, 116, 97, 116]⟩, 4), (⟨#[109, 109, 97, 112]⟩, 9), (⟨#[109, 112, 114, 111, 116, 101, 99, 116]⟩, 10), (⟨#[98, 114, 107]⟩, 12), (⟨#[105, 111, 99, 116, 108]⟩, 16), (⟨#[103, 101, 116, 112, 105, 100]⟩, 39), (⟨#[115, 111, 99, 107, 101, 116]⟩, 41), (⟨#[99, 111, 110, 110, 101, 99, 116]⟩, 42), (⟨#[99, 108, 111, 110, 101]⟩, 56), (⟨#[102, 111, 114, 107]⟩, 57), (⟨#[101, 120, 101, 99, 118, 101]⟩, 59), (⟨#[101, 120, 105, 116]⟩, 60), (⟨#[107, 105, 108, 108]⟩, 62), (⟨#[112, 116, 114, 97, 99, 101]⟩, 101), (⟨#[112, 114, 99, 116, 108]⟩, 157), (⟨#[101, 120, 105, 116, 95, 103, 114, 111, 117, 112]⟩, 231), (⟨#[111, 112, 101, 110, 97, 116]⟩, 257), (⟨#[115, 101, 99, 99, 111, 109, 112]⟩, 317), (⟨#[103, 101, 116, 114, 97, 110, 100, 111, 109]⟩, 318), (⟨#[98, 112, 102]⟩, 321)]
def newT : List (ByteArray × Nat) := [(⟨#[105, 111, 99, 116, 108]⟩, 29), (⟨#[111, 112, 101, 110, 97, 116]⟩, 56), (⟨#[99, 108, 111, 115, 101]⟩, 57), (⟨#[114, 101, 97, 100]⟩, 63), (⟨#[119, 114, 105, 116, 101]⟩, 64), (⟨#[101, 120, 105, 116]⟩, 93), (⟨#[101, 120, 105, 116, 95, 103, 114, 111, 117, 112]⟩, 94), (⟨#[112, 116, 114, 97, 99, 101]⟩, 117), (⟨#[107, 105, 108, 108]⟩, 129), (⟨#[112, 114, 99, 116, 108]⟩, 167), (⟨#[103, 101, 116, 112, 105, 100]⟩, 172), (⟨#[115, 111, 99, 107, 101, 116]⟩, 198), (⟨#[99, 111, 110, 110, 101, 99, 116]⟩, 203), (⟨#[98, 114, 107]⟩, 214), (⟨#[99, 108, 111, 110, 101]⟩, 220), (⟨#[101, 120, 101, 99, 118, 101]⟩, 221), (⟨#[109, 109, 97, 112]⟩, 222), (⟨#[109, 112, 114, 111, 116, 101, 99, 116]⟩, 226), (⟨#[115, 101, 99, 99, 111, 109, 112]⟩, 277), (⟨#[103, 101, 116, 114, 97, 110, 100, 111, 109]⟩, 278), (⟨#[98, 112, 102]⟩, 280)]
/-- An architecture: its word, its calls, is it one. -/
def sysF (s : ByteArray) : Nat × List (ByteArray × Nat) × Bool := if s = bX86 then (3221225534, oldT, true) else if s = bRv then (3221225715, newT, true) else if s = bArm then (3221225655, newT, true) else (0, [], false)
/-- The number of a name. -/
def findF : List (ByteArray × Nat) → ByteArray → Nat × Bool
  | [], _ => (0, false)
  | x :: l, n => if x.1 = n then (x.2, true) else findF l n
/-- The number of a call. -/
def nrF (l : List (ByteArray × Nat)) (c : ByteArray × Nat) : Option Nat :=
  if c.1 = ⟨#[]⟩ then (if c.2 ≤ 4294967295 then some c.2 else none)
  else if c.2 = 0 ∧ (findF l c.1).2 = true then some (findF l c.1).1 else none
/-- A verdict's word. -/
def wordK (k : Int) : Nat × Nat × Bool :=
  if k = 1 then (2147483648, 0, true) else if k = 2 then (0, 0, true) else if k = 3 then (196608, 65535, true) else if k = 4 then (327680, 4095, true)
  else if k = 5 then (2143289344, 0, true) else if k = 6 then (2146435072, 65535, true) else if k = 7 then (2147221504, 0, true) else if k = 8 then (2147418112, 0, true) else (0, 0, false)
def actF (v : Int × Nat) : Nat × Bool := if (wordK v.1).2.2 = true ∧ v.2 ≤ (wordK v.1).2.1 then ((wordK v.1).1 + v.2, true) else (0, false)
/-- Has an expression its shape? -/
def shapeB (op : Int) (n : Nat) (f r : Int) : Bool :=
  if op = 1 ∨ op = 2 then decide (n = 0) else if op = 3 then decide (n = 1) else if op = 4 ∨ op = 5 then decide (2 ≤ n)
  else if op = 6 then decide (n = 0 ∧ 0 ≤ f ∧ f ≤ 6 ∧ 1 ≤ r ∧ r ≤ 6) else false
/-- The bits of v that m lacks. -/
def clearN (v m : Nat) : Nat := ((BitVec.ofNat 64 v) &&& ~~~(BitVec.ofNat 64 m)).toNat
def maskN (v m : Nat) : Nat := ((BitVec.ofNat 64 v) &&& (BitVec.ofNat 64 m)).toNat
mutual
def exF : Nat → Ex → Int
  | d, .mk op l f m r v => if 200 < d ∨ shapeB op l.length f r = false then 76 else if op = 6 ∧ (m = 0 ∨ clearN v m ≠ 0) then 75 else exsF (d + 1) l
def exsF : Nat → List Ex → Int
  | _, [] => 0
  | d, e :: l => if exF d e ≠ 0 then exF d e else exsF d l
end
def zeroR7 : Ru := ⟨[], .zero, (0, 0)⟩
/-- Data: the number, the architecture, the address, the arguments. -/
structure Dat where
  nr : Nat
  arch : Nat
  ip : Nat
  args : Nat → Nat
def relB (r : Int) (a b : Nat) : Bool :=
  if r = 1 then decide (a = b) else if r = 2 then decide (a ≠ b) else if r = 3 then decide (a < b) else if r = 4 then decide (a ≤ b) else if r = 5 then decide (b < a) else decide (b ≤ a)
def fieldN (d : Dat) (f : Int) : Nat := if f = 6 then d.ip else d.args f.toNat
mutual
def holdsF (d : Dat) : Ex → Bool
  | .mk op l f m r v => if op = 1 then true else if op = 2 then false else if op = 3 then firstF d l else if op = 4 then allF d l else if op = 5 then anyF d l else relB r (maskN (fieldN d f) m) v
def firstF (d : Dat) : List Ex → Bool
  | [] => false
  | e :: _ => !holdsF d e
def allF (d : Dat) : List Ex → Bool
  | [] => true
  | e :: l => holdsF d e && allF d l
def anyF (d : Dat) : List Ex → Bool
  | [] => false
  | e :: l => holdsF d e || anyF d l
end
/-- What is wrong with a rule's calls. -/
def callsE (t : List (ByteArray × Nat)) : List Nat → List (ByteArray × Nat) → Int
  | _, [] => 0
  | met, c :: l => match nrF t c with
    | none => 73
    | some n => if n ∈ met then 74 else callsE t (met ++ [n]) l
def ruleE (t : List (ByteArray × Nat)) (x : Ru) : Int :=
  if x.calls = [] then 73 else if callsE t [] x.calls ≠ 0 then callsE t [] x.calls else if exF 0 x.when_ ≠ 0 then exF 0 x.when_ else if (actF x.do_).2 = true then 0 else 72
def rulesE (t : List (ByteArray × Nat)) : Nat → List Ru → Int × Int
  | _, [] => (0, 0)
  | i, x :: l => if ruleE t x ≠ 0 then (ruleE t x, (i : Int)) else rulesE t (i + 1) l
def checkF (p : Po) : Int × Int :=
  if (sysF p.arch).2.2 = false then (71, -1) else if (actF p.foreign_).2 = false ∨ (actF p.default_).2 = false then (72, -1) else if 512 < p.rules.length then (2, -1)
  else rulesE (sysF p.arch).2.1 0 p.rules
def hasB (t : List (ByteArray × Nat)) (n : Nat) : List (ByteArray × Nat) → Bool
  | [] => false
  | c :: l => if nrF t c = some n then true else hasB t n l
def pickF (t : List (ByteArray × Nat)) (d : Dat) (dflt : Int × Nat) : List Ru → Int × Nat
  | [] => dflt
  | x :: l => if hasB t d.nr x.calls = true ∧ holdsF d x.when_ = true then x.do_ else pickF t d dflt l
def verdF (p : Po) (d : Dat) : Int × Nat := if d.arch ≠ (sysF p.arch).1 then p.foreign_ else pickF (sysF p.arch).2.1 d p.default_ p.rules
def evalF (p : Po) (d : Dat) : Nat := if (checkF p).1 ≠ 0 then 0 else (actF (verdF p d)).1
end Go.Proofs.YtgeapkjegemkeaaDoor
