/-
  A policy's grammar as plain functions: the document's reader and the reading by values and places; that they tell the same; how far each goes. No condition: nothing here speaks of a program of Go's.
-/
import Derived.Test.YtgeapkjegemkeaaGreatDoorLexSpec
import Derived.Test.YtgeapkjegemkeaaGreatDoorLexBack
namespace Go.Proofs.YtgeapkjegemkeaaGreatDoor
set_option linter.unusedSimpArgs false
set_option linter.unusedVariables false

/-- An expression. -/
inductive Ex where
  | mk (op : Int) (args : List Ex) (field : Int) (mask : Nat) (rel : Int) (value : Nat)
namespace Ex
def op : Ex → Int | .mk o _ _ _ _ _ => o
def args : Ex → List Ex | .mk _ l _ _ _ _ => l
def field : Ex → Int | .mk _ _ f _ _ _ => f
def mask : Ex → Nat | .mk _ _ _ m _ _ => m
def rel : Ex → Int | .mk _ _ _ _ r _ => r
def value : Ex → Nat | .mk _ _ _ _ _ v => v
/-- Nothing; true (1), false (2), not (3), and (4), or (5). -/
def zero : Ex := .mk 0 [] 0 0 0 0
def plain (o : Int) : Ex := .mk o [] 0 0 0 0
def node (o : Int) (l : List Ex) : Ex := .mk o l 0 0 0 0
end Ex
/-- A reader: the next token's index, how deep it is, the first error, and its place. -/
structure Rd where
  at_ : Nat
  deep : Int
  err : Int
  bad : Nat
/-- What is read: tokens, the error behind them, and its place. -/
structure Src where
  toks : List Nx
  err : Int
  place : Nat
def noT : Nx := ⟨0, ⟨#[]⟩, 0, 0, 0, 0⟩
namespace Rd
def fails (r : Rd) (e : Int) (p : Nat) : Rd := if r.err = 0 then { r with err := e, bad := p } else r
/-- What peek tells, and what it leaves. -/
def peekT (S : Src) (r : Rd) : Nx := if r.err = 0 ∧ r.at_ < S.toks.length then S.toks.getD r.at_ noT else noT
def peekR (S : Src) (r : Rd) : Rd := if r.err = 0 ∧ ¬ r.at_ < S.toks.length then { r with err := S.err, bad := S.place } else r
def step (r : Rd) : Rd := { r with at_ := r.at_ + 1 }
def nextR (S : Src) (r : Rd) : Rd := if (r.peekR S).err = 0 then (r.peekR S).step else r.peekR S
def isB (S : Src) (r : Rd) (k : Int) (t : ByteArray) : Bool := decide ((r.peekR S).err = 0 ∧ (r.peekT S).kind = k ∧ (r.peekT S).text = t)
def isR (S : Src) (r : Rd) (k : Int) (t : ByteArray) : Rd := if r.isB S k t = true then (r.peekR S).step else r.peekR S
def wantR (S : Src) (r : Rd) (k : Int) (t : ByteArray) : Rd :=
  if r.isB S k t = true then r.isR S k t else ((r.isR S k t).peekR S).fails 61 ((r.isR S k t).peekT S).pos
def kindT (S : Src) (r : Rd) (k : Int) : Nx := if (r.peekT S).kind = k then (r.peekR S).peekT S else noT
def kindR (S : Src) (r : Rd) (k : Int) : Rd := if (r.peekT S).kind = k then (r.peekR S).nextR S else (r.peekR S).fails 61 (r.peekT S).pos
end Rd
/-- The bytes of the grammar's words. -/
def bNot : ByteArray := ⟨#[110, 111, 116]⟩
def bOpen : ByteArray := ⟨#[40]⟩
def bShut : ByteArray := ⟨#[41]⟩
def bTrue : ByteArray := ⟨#[116, 114, 117, 101]⟩
def bFalse : ByteArray := ⟨#[102, 97, 108, 115, 101]⟩
def bAnd : ByteArray := ⟨#[97, 110, 100]⟩
def bOr : ByteArray := ⟨#[111, 114]⟩
def bAmp : ByteArray := ⟨#[38]⟩
def bIp : ByteArray := ⟨#[105, 112]⟩
/-- A field's number; -1: none. -/
def fieldF (s : ByteArray) : Int :=
  if s = bIp then 6
  else if s.size = 4 ∧ byt s 0 = 97 ∧ byt s 1 = 114 ∧ byt s 2 = 103 ∧ 48 ≤ byt s 3 ∧ byt s 3 ≤ 53 then (byt s 3 : Int) - 48 else -1
def relF (s : ByteArray) : Int :=
  if s = ⟨#[61, 61]⟩ then 1 else if s = ⟨#[33, 61]⟩ then 2 else if s = ⟨#[60]⟩ then 3 else if s = ⟨#[60, 61]⟩ then 4 else if s = ⟨#[62]⟩ then 5 else if s = ⟨#[62, 61]⟩ then 6 else 0
section
variable (S : Src)
/-- A test, its field having been taken. -/
def testE (f : Int) (r : Rd) : Ex × Rd :=
  let r1 := r.isR S 4 bAmp
  let m := if r.isB S 4 bAmp = true then (r1.kindT S 3).num else 18446744073709551615
  let r2 := if r.isB S 4 bAmp = true then r1.kindR S 3 else r1
  let t := r2.kindT S 4
  let r3 := r2.kindR S 4
  let r4 := if relF t.text = 0 then r3.fails 61 t.pos else r3
  (.mk 6 [] f m (relF t.text) (r4.kindT S 3).num, r4.kindR S 3)
/-- One level more. -/
def deeperR (r : Rd) (p : Nat) : Rd := if 64 < r.deep + 1 then ({ r with deep := r.deep + 1 } : Rd).fails 62 p else { r with deep := r.deep + 1 }
def up (r : Rd) : Rd := { r with deep := r.deep - 1 }
/-- Behind a first part: parts with a word between them. -/
def loopF (word : ByteArray) (item : Rd → Option (Ex × Rd)) : Nat → List Ex → Rd → Option (List Ex × Rd)
  | 0, _, _ => none
  | n + 1, l, r =>
    if r.err ≠ 0 then some (l, r)
    else if r.isB S 2 word = false then some (l, r.isR S 2 word)
    else match item (r.isR S 2 word) with
      | none => none
      | some (e, r') => loopF word item n (l ++ [e]) r'
def joinE (o : Int) (l : List Ex) : Ex := match l with
  | [e] => e
  | l => .node o l
def allW (one : Rd → Option (Ex × Rd)) (n : Nat) (r : Rd) : Option (Ex × Rd) :=
  match one r with
  | none => none
  | some (e, r1) => match loopF S bAnd one n [e] r1 with
    | none => none
    | some (l, r2) => some (joinE 4 l, r2)
def exprW (one : Rd → Option (Ex × Rd)) (n : Nat) (r : Rd) : Option (Ex × Rd) :=
  match allW S one n r with
  | none => none
  | some (e, r1) => match loopF S bOr (allW S one n) n [e] r1 with
    | none => none
    | some (l, r2) => some (joinE 5 l, r2)
/-- One, of what is handed on for its parts. -/
def oneS (one expr : Rd → Option (Ex × Rd)) (r : Rd) : Option (Ex × Rd) :=
  let t := r.peekT S
  let r1 := r.nextR S
  if r1.err ≠ 0 then some (.zero, r1)
  else if t.kind = 2 ∧ t.text = bNot then
    if (deeperR r1 t.pos).err = 0 then
      match one (deeperR r1 t.pos) with
      | none => none
      | some (e, r2) => some (.node 3 [e], up r2)
    else some (.zero, up (deeperR r1 t.pos))
  else if t.kind = 4 ∧ t.text = bOpen then
    if (deeperR r1 t.pos).err = 0 then
      match expr (deeperR r1 t.pos) with
      | none => none
      | some (e, r2) => some (e, up (r2.wantR S 4 bShut))
    else some (.zero, up (deeperR r1 t.pos))
  else if t.kind = 2 ∧ t.text = bTrue then some (.plain 1, r1)
  else if t.kind = 2 ∧ t.text = bFalse then some (.plain 2, r1)
  else if t.kind = 2 ∧ 0 ≤ fieldF t.text then some (testE S (fieldF t.text) r1)
  else some (.zero, r1.fails 61 t.pos)
def oneN : Nat → Rd → Option (Ex × Rd)
  | 0 => fun _ => none
  | n + 1 => oneS S (oneN n) (exprW S (oneN n) n)
def exprN (n : Nat) : Rd → Option (Ex × Rd) := exprW S (oneN S n) n
end
section
variable {S : Src}
end
end Go.Proofs.YtgeapkjegemkeaaGreatDoor
namespace Go.Proofs.YtgeapkjegemkeaaGreatDoor
set_option linter.unusedSimpArgs false
set_option linter.unusedVariables false
namespace Rd
/-- A step of at most n tokens, at the same depth. -/
structure Near (n : Nat) (r r' : Rd) : Prop where
  ge : r.at_ ≤ r'.at_
  le : r'.at_ ≤ r.at_ + n
  deep : r'.deep = r.deep
theorem Near.refl (r : Rd) : Near 0 r r := ⟨Nat.le_refl _, Nat.le_refl _, rfl⟩
theorem Near.trans {n m : Nat} {a b c : Rd} (h : Near n a b) (k : Near m b c) : Near (n + m) a c :=
  ⟨Nat.le_trans h.ge k.ge, by have := h.le; have := k.le; omega, k.deep.trans h.deep⟩
theorem Near.up {n m : Nat} {a b : Rd} (h : Near n a b) (k : n ≤ m) : Near m a b := ⟨h.ge, by have := h.le; omega, h.deep⟩
/-- An error once said stays. -/
theorem fails_err (r : Rd) (e : Int) (p : Nat) (h : r.err ≠ 0) : r.fails e p = r := if_neg h
theorem peek_err (S : Src) (r : Rd) (h : r.err ≠ 0) : r.peekR S = r := if_neg (fun g => h g.1)
theorem next_err (S : Src) (r : Rd) (h : r.err ≠ 0) : r.nextR S = r := by unfold nextR; rw [peek_err S r h, if_neg h]
theorem is_err (S : Src) (r : Rd) (k : Int) (t : ByteArray) (h : r.err ≠ 0) : r.isR S k t = r ∧ r.isB S k t = false := by
  have hb : r.isB S k t = false := decide_eq_false (by rw [peek_err S r h]; exact fun g => h g.1)
  exact ⟨by unfold isR; rw [hb, peek_err S r h]; rfl, hb⟩
theorem want_err (S : Src) (r : Rd) (k : Int) (t : ByteArray) (h : r.err ≠ 0) : r.wantR S k t = r := by
  unfold wantR; rw [(is_err S r k t h).2, (is_err S r k t h).1, peek_err S r h]; exact fails_err _ _ _ h
theorem kind_err (S : Src) (r : Rd) (k : Int) (h : r.err ≠ 0) : r.kindR S k = r := by
  unfold kindR; rw [peek_err S r h]; split
  · exact next_err S r h
  · exact fails_err _ _ _ h
end Rd
end Go.Proofs.YtgeapkjegemkeaaGreatDoor
namespace Go.Proofs.YtgeapkjegemkeaaGreatDoor
set_option linter.unusedSimpArgs false
set_option linter.unusedVariables false

/-- A value and the index of the token behind it; an error and its place; no fuel. -/
inductive Got (α : Type) where
  | ok (x : α) (i : Nat)
  | bad (err : Int) (place : Nat)
  | out
namespace Got
def andThen {α β : Type} (g : Got α) (f : α → Nat → Got β) : Got β := match g with
  | ok x i => f x i
  | bad e p => bad e p
  | out => out
end Got
/-- A verdict's kind by its word, and whether a number follows; 0: it is none. -/
def verdK (s : ByteArray) : Int × Bool :=
  if s = ⟨#[107, 105, 108, 108, 95, 112, 114, 111, 99, 101, 115, 115]⟩ then (1, false) else
  if s = ⟨#[107, 105, 108, 108, 95, 116, 104, 114, 101, 97, 100]⟩ then (2, false) else
  if s = ⟨#[116, 114, 97, 112]⟩ then (3, true) else
  if s = ⟨#[101, 114, 114, 110, 111]⟩ then (4, true) else
  if s = ⟨#[110, 111, 116, 105, 102, 121]⟩ then (5, false) else
  if s = ⟨#[116, 114, 97, 99, 101]⟩ then (6, true) else
  if s = ⟨#[108, 111, 103]⟩ then (7, false) else
  if s = ⟨#[97, 108, 108, 111, 119]⟩ then (8, false) else
  (0, false)
def bArch : ByteArray := ⟨#[97, 114, 99, 104]⟩
def bForeign : ByteArray := ⟨#[102, 111, 114, 101, 105, 103, 110]⟩
def bDefault : ByteArray := ⟨#[100, 101, 102, 97, 117, 108, 116]⟩
def bOn : ByteArray := ⟨#[111, 110]⟩
def bWhen : ByteArray := ⟨#[119, 104, 101, 110]⟩
def bDo : ByteArray := ⟨#[100, 111]⟩
def bSemi : ByteArray := ⟨#[59]⟩
def bComma : ByteArray := ⟨#[44]⟩
/-- A rule; a policy. -/
structure Ru where
  calls : List (ByteArray × Nat)
  when_ : Ex
  do_ : Int × Nat
structure Po where
  arch : ByteArray
  foreign_ : Int × Nat
  default_ : Int × Nat
  rules : List Ru
section
variable (S : Src)
def tk (i : Nat) : Nx := S.toks.getD i noT
/-- Behind token i. -/
def adv {α : Type} (i : Nat) (x : α) : Got α := if i + 1 < S.toks.length then .ok x (i + 1) else .bad S.err S.place
def noG {α : Type} (i : Nat) : Got α := .bad 61 (tk S i).pos
def demandG (t : ByteArray) (i : Nat) : Got Unit := if (tk S i).text = t then adv S i () else noG S i
def takeG (k : Int) (i : Nat) : Got Nx := if (tk S i).kind = k then adv S i (tk S i) else noG S i
def nameG (i : Nat) : Got ByteArray := (takeG S 2 i).andThen fun t j => .ok t.text j
def numG (i : Nat) : Got Nat := (takeG S 3 i).andThen fun t j => .ok t.num j
def verdG (i : Nat) : Got (Int × Nat) :=
  if (verdK (tk S i).text).1 = 0 then noG S i
  else (adv S i ()).andThen fun _ j =>
    if (verdK (tk S i).text).2 = true then (numG S j).andThen fun n k => .ok ((verdK (tk S i).text).1, n) k
    else .ok ((verdK (tk S i).text).1, 0) j
def callG (i : Nat) : Got (ByteArray × Nat) :=
  if (tk S i).kind = 3 then (numG S i).andThen fun n j => .ok (⟨#[]⟩, n) j
  else (nameG S i).andThen fun s j => .ok (s, 0) j
def maskG (i : Nat) : Got Nat := if (tk S i).text = bAmp then (adv S i ()).andThen fun _ j => numG S j else .ok 18446744073709551615 i
def relG (i : Nat) : Got Int := if relF (tk S i).text = 0 then noG S i else adv S i (relF (tk S i).text)
def testG (i : Nat) : Got Ex :=
  if fieldF (tk S i).text < 0 then noG S i
  else (adv S i ()).andThen fun _ j => (maskG S j).andThen fun m k => (relG S k).andThen fun r l => (numG S l).andThen fun v e =>
    .ok (.mk 6 [] (fieldF (tk S i).text) m r v) e
/-- Behind a first part: parts with a mark between them. -/
def turnsG {α : Type} (mark : ByteArray) (item : Nat → Got α) : Nat → List α → Nat → Got (List α)
  | 0, _, _ => .out
  | n + 1, l, i => if (tk S i).text = mark then (adv S i ()).andThen fun _ j => (item j).andThen fun x k => turnsG mark item n (l ++ [x]) k else .ok l i
def byTurnsG {α : Type} (mark : ByteArray) (item : Nat → Got α) (n : Nat) (i : Nat) : Got (List α) := (item i).andThen fun x j => turnsG S mark item n [x] j
def allG (one : Nat → Got Ex) (n : Nat) (i : Nat) : Got Ex := (byTurnsG S bAnd one n i).andThen fun l j => .ok (joinE 4 l) j
def exprH (one : Nat → Got Ex) (n : Nat) (i : Nat) : Got Ex := (byTurnsG S bOr (allG S one n) n i).andThen fun l j => .ok (joinE 5 l) j
/-- Behind a bracket or a not. -/
def openG (d : Nat) (i : Nat) : Got Unit := if d = 64 then .bad 62 (tk S i).pos else adv S i ()
def oneH (one expr : Nat → Nat → Got Ex) (d i : Nat) : Got Ex :=
  if (tk S i).text = bNot then (openG S d i).andThen fun _ j => (one (d + 1) j).andThen fun e k => .ok (.node 3 [e]) k
  else if (tk S i).text = bOpen then (openG S d i).andThen fun _ j => (expr (d + 1) j).andThen fun e k => (demandG S bShut k).andThen fun _ l => .ok e l
  else if (tk S i).text = bTrue then adv S i (.plain 1)
  else if (tk S i).text = bFalse then adv S i (.plain 2)
  else testG S i
def oneG : Nat → Nat → Nat → Got Ex
  | 0 => fun _ _ => .out
  | n + 1 => oneH S (oneG n) (fun d => exprH S (oneG n d) n)
def exprG (n d i : Nat) : Got Ex := exprH S (oneG S n d) n i
def whenG (n i : Nat) : Got Ex := if (tk S i).text = bWhen then (adv S i ()).andThen fun _ j => exprG S n 0 j else .ok (.plain 1) i
def ruleG (n i : Nat) : Got Ru :=
  (demandG S bOn i).andThen fun _ j => (byTurnsG S bComma (callG S) n j).andThen fun cs k => (whenG S n k).andThen fun e l =>
    (demandG S bDo l).andThen fun _ m => (verdG S m).andThen fun v o => (demandG S bSemi o).andThen fun _ p => .ok ⟨cs, e, v⟩ p
def rulesG (n : Nat) : Nat → List Ru → Nat → Got (List Ru)
  | 0, _, _ => .out
  | m + 1, l, i =>
    if (tk S i).kind = 1 then .ok l i
    else if l.length = 512 ∧ (tk S i).text = bOn then .bad 63 (tk S i).pos
    else (ruleG S n i).andThen fun x j => rulesG n m (l ++ [x]) j
def policyG (n i : Nat) : Got Po :=
  (demandG S bArch i).andThen fun _ a => (nameG S a).andThen fun s b => (demandG S bSemi b).andThen fun _ c =>
  (demandG S bForeign c).andThen fun _ d => (verdG S d).andThen fun f e => (demandG S bSemi e).andThen fun _ g =>
  (demandG S bDefault g).andThen fun _ h => (verdG S h).andThen fun v j => (demandG S bSemi j).andThen fun _ k =>
  (rulesG S n n [] k).andThen fun l m => .ok ⟨s, f, v, l⟩ m
def wholeG (n i : Nat) : Got Ex := (exprG S n 0 i).andThen fun e j => if (tk S j).kind = 1 then .ok e j else noG S j
def readG {α : Type} (whole : Nat → Got α) : Got α := if 0 < S.toks.length then whole 0 else .bad S.err S.place
end
end Go.Proofs.YtgeapkjegemkeaaGreatDoor
namespace Go.Proofs.YtgeapkjegemkeaaGreatDoor
/-- A call, and what its reading leaves. -/
def callT (S : Src) (r : Rd) : ByteArray × Nat := if (r.peekT S).kind = 2 then ((r.peekT S).text, 0) else if (r.peekT S).kind = 3 then (⟨#[]⟩, (r.peekT S).num) else (⟨#[]⟩, 0)
def callR (S : Src) (r : Rd) : Rd := if (r.peekT S).kind = 2 then (r.peekR S).nextR S else if (r.peekT S).kind = 3 then (r.peekR S).nextR S else (r.peekR S).fails 61 (r.peekT S).pos
def verdT (S : Src) (r : Rd) : Int × Nat :=
  if (r.kindR S 2).err ≠ 0 then (0, 0)
  else if (verdK (r.kindT S 2).text).1 = 0 then (0, 0)
  else ((verdK (r.kindT S 2).text).1, if (verdK (r.kindT S 2).text).2 = true then ((r.kindR S 2).kindT S 3).num else 0)
def verdR (S : Src) (r : Rd) : Rd :=
  if (r.kindR S 2).err ≠ 0 then r.kindR S 2
  else if (verdK (r.kindT S 2).text).1 = 0 then (r.kindR S 2).fails 61 (r.kindT S 2).pos
  else if (verdK (r.kindT S 2).text).2 = true then (r.kindR S 2).kindR S 3
  else r.kindR S 2
end Go.Proofs.YtgeapkjegemkeaaGreatDoor
namespace Go.Proofs.YtgeapkjegemkeaaGreatDoor
set_option linter.unusedSimpArgs false
set_option linter.unusedVariables false

/-- What a token is by its first byte. -/
def kindOf (s : ByteArray) : Int := if s.size = 0 then 1 else if letB (byt s 0) = true then 2 else if digB (byt s 0) = true then 3 else 4
/-- What a text's tokens keep. -/
structure Lexd (S : Src) : Prop where
  kinds : ∀ i, i < S.toks.length → (tk S i).kind = kindOf (tk S i).text
  more : ∀ i, i < S.toks.length → (tk S i).kind ≠ 1 → i + 1 < S.toks.length ∨ S.err ≠ 0
  start : 0 < S.toks.length ∨ S.err ≠ 0
/-- Nothing is wrong yet, and token i is next. -/
structure At (S : Src) (r : Rd) (i : Nat) (d : Nat) : Prop where
  err : r.err = 0
  is_ : r.at_ = i
  deep : r.deep = (d : Int)
  lt : i < S.toks.length
/-- Something is wrong. -/
structure Bad (S : Src) (r : Rd) (e : Int) (p : Nat) : Prop where
  ne : e ≠ 0
  err : (r.peekR S).err = e
  bad : (r.peekR S).bad = p
def Sim {α : Type} (S : Src) (d : Nat) (x : α × Rd) : Got α → Prop
  | .ok v j => x.1 = v ∧ At S x.2 j d
  | .bad e p => Bad S x.2 e p
  | .out => False
section
variable {S : Src}
theorem peek_peek (r : Rd) : (r.peekR S).peekR S = r.peekR S := by
  by_cases h : r.err = 0 ∧ ¬ r.at_ < S.toks.length
  · have e : r.peekR S = { r with err := S.err, bad := S.place } := if_pos h
    rw [e]
    unfold Rd.peekR
    split
    · rfl
    · rfl
  · have e : r.peekR S = r := if_neg h
    rw [e, e]
theorem peekT_peek (r : Rd) : (r.peekR S).peekT S = r.peekT S := by
  by_cases h : r.err = 0 ∧ ¬ r.at_ < S.toks.length
  · have e : r.peekR S = { r with err := S.err, bad := S.place } := if_pos h
    rw [e]
    unfold Rd.peekT
    rw [if_neg (fun g => h.2 g.2), if_neg (fun g => h.2 g.2)]
  · have e : r.peekR S = r := if_neg h
    rw [e]
theorem is_peek (r : Rd) (k : Int) (t : ByteArray) : (r.peekR S).isR S k t = r.isR S k t ∧ (r.peekR S).isB S k t = r.isB S k t := by
  have hb : (r.peekR S).isB S k t = r.isB S k t := by unfold Rd.isB; rw [peek_peek, peekT_peek]
  exact ⟨by unfold Rd.isR; rw [hb, peek_peek], hb⟩
theorem want_peek (r : Rd) (k : Int) (t : ByteArray) : (r.peekR S).wantR S k t = r.wantR S k t := by
  unfold Rd.wantR; rw [(is_peek r k t).1, (is_peek r k t).2]
theorem kind_peek (r : Rd) (k : Int) : (r.peekR S).kindR S k = r.kindR S k ∧ (r.peekR S).kindT S k = r.kindT S k := by
  unfold Rd.kindR Rd.kindT; rw [peek_peek, peekT_peek]; exact ⟨rfl, rfl⟩
theorem next_peek (r : Rd) : (r.peekR S).nextR S = r.nextR S := by
  unfold Rd.nextR; rw [peek_peek]
namespace Bad
variable {r : Rd} {e : Int} {p : Nat}
theorem stuck (h : Bad S r e p) : (r.peekR S).err ≠ 0 := by rw [h.err]; exact h.ne
theorem peeked (h : Bad S r e p) : Bad S (r.peekR S) e p := ⟨h.ne, by rw [peek_peek]; exact h.err, by rw [peek_peek]; exact h.bad⟩
theorem set (hr : r.err = 0) (he : e ≠ 0) (p : Nat) : Bad S (r.fails e p) e p := by
  have h1 : r.fails e p = { r with err := e, bad := p } := if_pos hr
  have h2 : ({ r with err := e, bad := p } : Rd).peekR S = { r with err := e, bad := p } := Rd.peek_err S _ he
  rw [h1]
  exact ⟨he, by rw [h2], by rw [h2]⟩
theorem of_eq {r' : Rd} (h : Bad S r e p) (h' : r' = r.peekR S) : Bad S r' e p := h' ▸ h.peeked
theorem is (h : Bad S r e p) (k : Int) (t : ByteArray) : Bad S (r.isR S k t) e p ∧ r.isB S k t = false := by
  have h2 := Rd.is_err S _ k t h.stuck
  rw [(is_peek r k t).1, (is_peek r k t).2] at h2
  exact ⟨h.of_eq h2.1, h2.2⟩
theorem want (h : Bad S r e p) (k : Int) (t : ByteArray) : Bad S (r.wantR S k t) e p := by
  have h2 := Rd.want_err S _ k t h.stuck
  rw [want_peek] at h2
  exact h.of_eq h2
theorem next (h : Bad S r e p) : Bad S (r.nextR S) e p := by
  have h2 := Rd.next_err S _ h.stuck
  rw [next_peek] at h2
  exact h.of_eq h2
theorem noT_of (h : Bad S r e p) : r.peekT S = noT := by
  have h2 : (r.peekR S).peekT S = noT := if_neg (fun g => h.stuck g.1)
  rw [peekT_peek] at h2; exact h2
theorem kind (h : Bad S r e p) (k : Int) : Bad S (r.kindR S k) e p ∧ r.kindT S k = noT := by
  have h2 := Rd.kind_err S _ k h.stuck
  rw [(kind_peek r k).1] at h2
  refine ⟨h.of_eq h2, ?_⟩
  unfold Rd.kindT; rw [peekT_peek, h.noT_of]; split <;> rfl
theorem fails (h : Bad S r e p) (hr : r.err ≠ 0) (e' : Int) (p' : Nat) : Bad S (r.fails e' p') e p := by
  rw [Rd.fails_err _ _ _ hr]; exact h
end Bad
namespace At
variable {r : Rd} {i d : Nat}
theorem peekR (h : At S r i d) : r.peekR S = r := if_neg (fun g => g.2 (by rw [h.is_]; exact h.lt))
theorem peekT (h : At S r i d) : r.peekT S = tk S i := by unfold Rd.peekT tk; rw [if_pos ⟨h.err, by rw [h.is_]; exact h.lt⟩, h.is_]
theorem nextR (h : At S r i d) : r.nextR S = r.step := by unfold Rd.nextR; rw [h.peekR, if_pos h.err]
theorem kind (h : At S r i d) (hS : Lexd S) : (tk S i).kind = kindOf (tk S i).text := hS.kinds i h.lt
theorem isB (h : At S r i d) (hS : Lexd S) {k : Int} {t : ByteArray} (hk : kindOf t = k) : r.isB S k t = decide ((tk S i).text = t) := by
  unfold Rd.isB
  rw [h.peekR, h.peekT]
  by_cases ht : (tk S i).text = t
  · rw [decide_eq_true ht]; exact decide_eq_true ⟨h.err, by rw [h.kind hS, ht]; exact hk, ht⟩
  · rw [decide_eq_false ht]; exact decide_eq_false (fun g => ht g.2.2)
theorem isR (h : At S r i d) (hS : Lexd S) {k : Int} {t : ByteArray} (hk : kindOf t = k) : r.isR S k t = if (tk S i).text = t then r.step else r := by
  unfold Rd.isR
  rw [h.isB hS hk, h.peekR]
  by_cases ht : (tk S i).text = t
  · rw [if_pos (decide_eq_true ht), if_pos ht]
  · rw [if_neg (by rw [decide_eq_false ht]; decide), if_neg ht]
theorem step {α : Type} (h : At S r i d) (hS : Lexd S) (hk : (tk S i).kind ≠ 1) (x : α) : Sim S d (x, r.step) (adv S i x) := by
  unfold adv
  by_cases hl : i + 1 < S.toks.length
  · rw [if_pos hl]
    exact ⟨rfl, ⟨h.err, by show r.at_ + 1 = _; rw [h.is_], h.deep, hl⟩⟩
  · rw [if_neg hl]
    have he := (hS.more i h.lt hk).resolve_left hl
    have hp : r.step.peekR S = { r.step with err := S.err, bad := S.place } := if_pos ⟨h.err, by show ¬ r.at_ + 1 < _; rw [h.is_]; exact hl⟩
    exact ⟨he, by rw [hp], by rw [hp]⟩
theorem ne_end (h : At S r i d) (hS : Lexd S) {t : ByteArray} (ht : (tk S i).text = t) (hk : kindOf t ≠ 1) : (tk S i).kind ≠ 1 := by rw [h.kind hS, ht]; exact hk
theorem wrong (h : At S r i d) {e : Int} (he : e ≠ 0) (p : Nat) : Bad S (r.fails e p) e p := Bad.set h.err he p
theorem want (h : At S r i d) (hS : Lexd S) {k : Int} {t : ByteArray} (hk : kindOf t = k) (hk1 : k ≠ 1) : Sim S d ((), r.wantR S k t) (demandG S t i) := by
  unfold Rd.wantR demandG
  rw [h.isB hS hk, h.isR hS hk]
  by_cases ht : (tk S i).text = t
  · rw [if_pos (decide_eq_true ht), if_pos ht, if_pos ht]
    exact h.step hS (h.ne_end hS ht (by rw [hk]; exact hk1)) ()
  · rw [if_neg (by rw [decide_eq_false ht]; decide), if_neg ht, if_neg ht, h.peekR, h.peekT]
    exact h.wrong (by decide) _
theorem take (h : At S r i d) (hS : Lexd S) {k : Int} (hk1 : k ≠ 1) : Sim S d (r.kindT S k, r.kindR S k) (takeG S k i) := by
  unfold Rd.kindR Rd.kindT takeG
  rw [h.peekR, h.peekT]
  by_cases hk : (tk S i).kind = k
  · rw [if_pos hk, if_pos hk, if_pos hk, h.nextR]
    exact h.step hS (by rw [hk]; exact hk1) _
  · rw [if_neg hk, if_neg hk, if_neg hk]
    exact h.wrong (by decide) _
end At
/-- What follows, when what is ahead went well, and when it did not. -/
theorem Sim.andThen {α β : Type} {d d' : Nat} {x : α × Rd} {y : β × Rd} {g : Got α} {f : α → Nat → Got β} (h : Sim S d x g) (hok : ∀ j, At S x.2 j d → g = .ok x.1 j → Sim S d' y (f x.1 j)) (hbad : ∀ e p, Bad S x.2 e p → Bad S y.2 e p) : Sim S d' y (g.andThen f) := by
  cases g with
  | ok v j => obtain ⟨h1, h2⟩ := h; subst h1; exact hok j h2 rfl
  | bad e p => exact hbad e p h
  | out => exact h.elim
end
end Go.Proofs.YtgeapkjegemkeaaGreatDoor
namespace Go.Proofs.YtgeapkjegemkeaaGreatDoor
set_option linter.unusedSimpArgs false
set_option linter.unusedVariables false
section
variable {S : Src}
theorem verdK_kind {s : ByteArray} (h : (verdK s).1 ≠ 0) : kindOf s = 2 := by
  unfold verdK at h
  by_cases h0 : s = ⟨#[107, 105, 108, 108, 95, 112, 114, 111, 99, 101, 115, 115]⟩
  · rw [h0]; rfl
  rw [if_neg h0] at h
  by_cases h0 : s = ⟨#[107, 105, 108, 108, 95, 116, 104, 114, 101, 97, 100]⟩
  · rw [h0]; rfl
  rw [if_neg h0] at h
  by_cases h0 : s = ⟨#[116, 114, 97, 112]⟩
  · rw [h0]; rfl
  rw [if_neg h0] at h
  by_cases h0 : s = ⟨#[101, 114, 114, 110, 111]⟩
  · rw [h0]; rfl
  rw [if_neg h0] at h
  by_cases h0 : s = ⟨#[110, 111, 116, 105, 102, 121]⟩
  · rw [h0]; rfl
  rw [if_neg h0] at h
  by_cases h0 : s = ⟨#[116, 114, 97, 99, 101]⟩
  · rw [h0]; rfl
  rw [if_neg h0] at h
  by_cases h0 : s = ⟨#[108, 111, 103]⟩
  · rw [h0]; rfl
  rw [if_neg h0] at h
  by_cases h0 : s = ⟨#[97, 108, 108, 111, 119]⟩
  · rw [h0]; rfl
  rw [if_neg h0] at h
  exact absurd rfl h
theorem rel_kind {s : ByteArray} (h : relF s ≠ 0) : kindOf s = 4 := by
  unfold relF at h
  by_cases h0 : s = ⟨#[61, 61]⟩
  · rw [h0]; rfl
  rw [if_neg h0] at h
  by_cases h0 : s = ⟨#[33, 61]⟩
  · rw [h0]; rfl
  rw [if_neg h0] at h
  by_cases h0 : s = ⟨#[60]⟩
  · rw [h0]; rfl
  rw [if_neg h0] at h
  by_cases h0 : s = ⟨#[60, 61]⟩
  · rw [h0]; rfl
  rw [if_neg h0] at h
  by_cases h0 : s = ⟨#[62]⟩
  · rw [h0]; rfl
  rw [if_neg h0] at h
  by_cases h0 : s = ⟨#[62, 61]⟩
  · rw [h0]; rfl
  rw [if_neg h0] at h
  exact absurd rfl h
theorem field_kind {s : ByteArray} (h : 0 ≤ fieldF s) : kindOf s = 2 := by
  unfold fieldF at h
  by_cases h0 : s = bIp
  · rw [h0]; rfl
  rw [if_neg h0] at h
  split at h
  · rename_i g
    unfold kindOf
    rw [if_neg (by omega), g.2.1]; rfl
  · exact absurd h (by decide)
theorem Sim.map {α β : Type} {d : Nat} {x : α} {r : Rd} {g : Got α} (h : Sim S d (x, r) g) (f : α → β) : Sim S d (f x, r) (g.andThen fun t j => .ok (f t) j) :=
  h.andThen (fun j hj _ => ⟨rfl, hj⟩) (fun e p h => h)
theorem num_sim {r : Rd} {i d : Nat} (h : At S r i d) (hS : Lexd S) : Sim S d ((r.kindT S 3).num, r.kindR S 3) (numG S i) :=
  (h.take hS (by decide)).andThen (fun j hj _ => ⟨rfl, hj⟩) (fun e p h => h)
theorem name_sim {r : Rd} {i d : Nat} (h : At S r i d) (hS : Lexd S) : Sim S d ((r.kindT S 2).text, r.kindR S 2) (nameG S i) :=
  (h.take hS (by decide)).andThen (fun j hj _ => ⟨rfl, hj⟩) (fun e p h => h)
theorem verd_sim {r : Rd} {i d : Nat} (h : At S r i d) (hS : Lexd S) : Sim S d (verdT S r, verdR S r) (verdG S i) := by
  unfold verdT verdR verdG
  by_cases hv : (verdK (tk S i).text).1 = 0
  · rw [if_pos hv]
    by_cases hk : (tk S i).kind = 2
    · have e1 : r.kindR S 2 = r.step := by unfold Rd.kindR; rw [h.peekT, if_pos hk, h.peekR, h.nextR]
      have e2 : r.kindT S 2 = tk S i := by unfold Rd.kindT; rw [h.peekT, if_pos hk, h.peekR, h.peekT]
      have e3 : ¬ r.step.err ≠ 0 := fun g => g h.err
      rw [e1, e2, if_neg e3, if_neg e3, if_pos hv, if_pos hv]
      exact Bad.set (r := r.step) h.err (by decide) _
    · have e1 : r.kindR S 2 = r.fails 61 (tk S i).pos := by unfold Rd.kindR; rw [h.peekT, if_neg hk, h.peekR]
      have e3 : (r.fails 61 (tk S i).pos).err ≠ 0 := by unfold Rd.fails; rw [if_pos h.err]; exact (by decide : (61 : Int) ≠ 0)
      rw [e1, if_pos e3, if_pos e3]
      exact h.wrong (by decide) _
  · rw [if_neg hv]
    have hk : (tk S i).kind = 2 := by rw [h.kind hS]; exact verdK_kind hv
    have e1 : r.kindR S 2 = r.step := by unfold Rd.kindR; rw [h.peekT, if_pos hk, h.peekR, h.nextR]
    have e2 : r.kindT S 2 = tk S i := by unfold Rd.kindT; rw [h.peekT, if_pos hk, h.peekR, h.peekT]
    have e3 : ¬ r.step.err ≠ 0 := fun g => g h.err
    rw [e1, e2, if_neg e3, if_neg e3, if_neg hv, if_neg hv]
    refine (h.step hS (by rw [hk]; decide) ()).andThen (fun j hj _ => ?_) (fun e p hb => ?_)
    · by_cases hn : (verdK (tk S i).text).2 = true
      · rw [if_pos hn, if_pos hn, if_pos hn]
        exact (num_sim hj hS).andThen (fun k hk _ => ⟨rfl, hk⟩) (fun e p h => h)
      · rw [if_neg hn, if_neg hn, if_neg hn]
        exact ⟨rfl, hj⟩
    · by_cases hn : (verdK (tk S i).text).2 = true
      · rw [if_pos hn, if_pos hn]; exact (Bad.kind hb 3).1
      · rw [if_neg hn, if_neg hn]; exact hb
theorem verd_bad {r : Rd} {e : Int} {p : Nat} (h : Bad S r e p) : Bad S (verdR S r) e p := by
  unfold verdR
  have h1 := h.kind 2
  by_cases he : (r.kindR S 2).err ≠ 0
  · rw [if_pos he]; exact h1.1
  · have h2 := Rd.kind_err S _ 2 h.stuck
    rw [(kind_peek r 2).1] at h2
    exact absurd (by rw [h2]; exact h.stuck) he
theorem call_sim {r : Rd} {i d : Nat} (h : At S r i d) (hS : Lexd S) : Sim S d (callT S r, callR S r) (callG S i) := by
  unfold callT callR callG
  rw [h.peekT, h.peekR, h.nextR]
  by_cases h3 : (tk S i).kind = 3
  · have h2 : ¬ (tk S i).kind = 2 := by rw [h3]; decide
    rw [if_neg h2, if_pos h3, if_neg h2, if_pos h3, if_pos h3]
    unfold numG takeG
    rw [if_pos h3]
    exact ((h.step hS (by rw [h3]; decide) (tk S i)).map Nx.num).map (fun n => ((⟨#[]⟩ : ByteArray), n))
  · rw [if_neg h3, if_neg h3, if_neg h3]
    unfold nameG takeG
    by_cases h2 : (tk S i).kind = 2
    · rw [if_pos h2, if_pos h2, if_pos h2]
      exact ((h.step hS (by rw [h2]; decide) (tk S i)).map Nx.text).map (fun s => (s, 0))
    · rw [if_neg h2, if_neg h2, if_neg h2]
      exact h.wrong (by decide) _
theorem test_sim {r : Rd} {i d : Nat} (f : Int) (hf : f = fieldF (tk S i).text) (hS : Lexd S) (hg : Sim S d ((), r) (adv S i ())) (hf0 : ¬ fieldF (tk S i).text < 0) : Sim S d (testE S f r) (testG S i) := by
  unfold testG
  rw [if_neg hf0]
  refine hg.andThen (fun j hj _ => ?_) (fun e p hb => ?_)
  · subst hf
    have hm : Sim S d (if r.isB S 4 bAmp = true then ((r.isR S 4 bAmp).kindT S 3).num else 18446744073709551615, if r.isB S 4 bAmp = true then (r.isR S 4 bAmp).kindR S 3 else r.isR S 4 bAmp) (maskG S j) := by
      unfold maskG
      rw [hj.isB hS (show kindOf bAmp = 4 by rfl), hj.isR hS (show kindOf bAmp = 4 by rfl)]
      by_cases ha : (tk S j).text = bAmp
      · rw [if_pos ha, if_pos ha, if_pos (decide_eq_true ha), if_pos (decide_eq_true ha)]
        exact (hj.step hS (hj.ne_end hS ha (by decide)) ()).andThen (fun k hk _ => num_sim hk hS) (fun e p h => (h.kind 3).1)
      · rw [if_neg ha, if_neg ha, if_neg (by rw [decide_eq_false ha]; decide), if_neg (by rw [decide_eq_false ha]; decide)]
        exact ⟨rfl, hj⟩
    refine hm.andThen (fun k hk _ => ?_) (fun e p hb => ?_)
    · clear hm
      have hr : Sim S d (relF ((if r.isB S 4 bAmp = true then (r.isR S 4 bAmp).kindR S 3 else r.isR S 4 bAmp).kindT S 4).text, if relF ((if r.isB S 4 bAmp = true then (r.isR S 4 bAmp).kindR S 3 else r.isR S 4 bAmp).kindT S 4).text = 0 then ((if r.isB S 4 bAmp = true then (r.isR S 4 bAmp).kindR S 3 else r.isR S 4 bAmp).kindR S 4).fails 61 ((if r.isB S 4 bAmp = true then (r.isR S 4 bAmp).kindR S 3 else r.isR S 4 bAmp).kindT S 4).pos else (if r.isB S 4 bAmp = true then (r.isR S 4 bAmp).kindR S 3 else r.isR S 4 bAmp).kindR S 4) (relG S k) := by
        generalize (if r.isB S 4 bAmp = true then (r.isR S 4 bAmp).kindR S 3 else r.isR S 4 bAmp) = r2 at hk ⊢
        unfold relG
        by_cases h4 : (tk S k).kind = 4
        · have e1 : r2.kindR S 4 = r2.step := by unfold Rd.kindR; rw [hk.peekT, if_pos h4, hk.peekR, hk.nextR]
          have e2 : r2.kindT S 4 = tk S k := by unfold Rd.kindT; rw [hk.peekT, if_pos h4, hk.peekR, hk.peekT]
          rw [e1, e2]
          by_cases hz : relF (tk S k).text = 0
          · rw [if_pos hz, if_pos hz]; exact Bad.set (r := r2.step) hk.err (by decide) _
          · rw [if_neg hz, if_neg hz]; exact hk.step hS (by rw [h4]; decide) _
        · have hz : relF (tk S k).text = 0 := Decidable.byContradiction fun g => h4 (by rw [hk.kind hS]; exact rel_kind g)
          have e1 : r2.kindR S 4 = r2.fails 61 (tk S k).pos := by unfold Rd.kindR; rw [hk.peekT, if_neg h4, hk.peekR]
          have e2 : r2.kindT S 4 = noT := by unfold Rd.kindT; rw [hk.peekT, if_neg h4]
          rw [e1, e2, if_pos (by rfl), if_pos hz]
          have hb := hk.wrong (show (61 : Int) ≠ 0 by decide) (tk S k).pos
          exact hb.fails (by unfold Rd.fails; rw [if_pos hk.err]; exact (by decide : (61 : Int) ≠ 0)) _ _
      refine hr.andThen (fun l hl _ => ?_) (fun e p hb => ?_)
      · exact (num_sim hl hS).andThen (fun m hm _ => ⟨rfl, hm⟩) (fun e p h => h)
      · exact (Bad.kind hb 3).1
    · exact test_bad' hb
  · exact test_bad hb
where
  test_bad' {r2 : Rd} {e : Int} {p : Nat} (hb : Bad S r2 e p) : Bad S ((if relF (r2.kindT S 4).text = 0 then (r2.kindR S 4).fails 61 (r2.kindT S 4).pos else r2.kindR S 4).kindR S 3) e p := by
    have h1 := hb.kind 4
    have h2 := Rd.kind_err S _ 4 hb.stuck
    rw [(kind_peek r2 4).1] at h2
    rw [h1.2, if_pos (by rfl)]
    exact ((h1.1.fails (by rw [h2]; exact hb.stuck) _ _).kind 3).1
  test_bad {r : Rd} {e : Int} {p : Nat} (hb : Bad S r e p) : Bad S (testE S f r).2 e p := by
    unfold testE
    have h1 := hb.is 4 bAmp
    simp only [h1.2, Bool.false_eq_true, if_false]
    exact test_bad' h1.1
end
end Go.Proofs.YtgeapkjegemkeaaGreatDoor
namespace Go.Proofs.YtgeapkjegemkeaaGreatDoor
set_option linter.unusedSimpArgs false
set_option linter.unusedVariables false

/-- What is read of a text. -/
def srcF (s : ByteArray) : Src := ⟨(toksF s).1, (toksF s).2.1, (toksF s).2.2⟩
theorem tok_kind {x : Nx} (g : GoodTok x) : x.kind = kindOf x.text := by
  unfold kindOf
  rcases g.kinds with h | h | h | h
  · rw [if_pos (g.one h).1]; exact h
  · have h0 := g.some_ (by omega)
    have h1 := of_decide_eq_true (g.two h).1
    rw [if_neg (by omega), if_pos h1.2.2.1]; exact h
  · have h0 := g.some_ (by omega)
    have h1 := g.three h
    rw [if_neg (by omega), if_neg (by rw [h1.2.2.2.1]; decide), if_pos h1.2.2.1]; exact h
  · have h0 := g.some_ (by omega)
    have h1 := g.four h
    rw [if_neg (by omega), if_neg (by rw [h1.2.2.1]; decide), if_neg (by rw [h1.2.2.2]; decide)]; exact h
/-- Tokens that follow each other from a place on, up to the end, or to what is wrong. -/
def FlowL (s : ByteArray) : List Nx → Int → Nat → Nat → Prop
  | [], e, p, i => (nextF s (i : Int)).err = e ∧ e ≠ 0 ∧ (nextF s (i : Int)).next = p
  | x :: l, e, p, i => nextF s (i : Int) = x ∧ x.err = 0 ∧ GoodTok x ∧ x.next ≤ s.size ∧ ((x.kind = 1 ∧ l = [] ∧ e = 0) ∨ (x.kind ≠ 1 ∧ FlowL s l e p x.next))
theorem flow_toks {s : ByteArray} (hs : s.size ≤ 65536) : ∀ k i, i ≤ s.size → s.size - i < k → FlowL s (toksN s k i).1 (toksN s k i).2.1 (toksN s k i).2.2 i
  | 0, i, hi, hk => by omega
  | k + 1, i, hi, hk => by
    by_cases h1 : (nextF s (i : Int)).err ≠ 0
    · simp only [toksN, if_pos h1]
      exact ⟨rfl, h1, rfl⟩
    have h1' : (nextF s (i : Int)).err = 0 := by omega
    have hT := tok_good (skip_le (byt s) s.size i hi) (by rw [← next_in hs hi]; exact h1')
    rw [← next_in hs hi] at hT
    by_cases h2 : (nextF s (i : Int)).kind = 1
    · simp only [toksN, if_neg h1, if_pos h2]
      exact ⟨rfl, h1', hT.1, hT.2.2.2.1, .inl ⟨h2, rfl, rfl⟩⟩
    · simp only [toksN, if_neg h1, if_neg h2]
      have hg := next_goes hs hi h1' h2
      exact ⟨rfl, h1', hT.1, hT.2.2.2.1, .inr ⟨h2, flow_toks hs k _ hg.2 (by omega)⟩⟩
theorem flow_src (s : ByteArray) : FlowL s (srcF s).toks (srcF s).err (srcF s).place 0 := by
  by_cases hs : s.size ≤ 65536
  · exact flow_toks hs (s.size + 1) 0 (Nat.zero_le _) (by omega)
  · have hn : nextF s ((0 : Nat) : Int) = Nx.fail 0 54 := by unfold nextF; rw [if_pos (by omega)]
    have h1 : (nextF s ((0 : Nat) : Int)).err ≠ 0 := by rw [hn]; decide
    show FlowL s (toksN s (s.size + 1) 0).1 (toksN s (s.size + 1) 0).2.1 (toksN s (s.size + 1) 0).2.2 0
    simp only [toksN, if_pos h1]
    exact ⟨rfl, h1, rfl⟩
theorem flow_at {s : ByteArray} : ∀ {l : List Nx} {e : Int} {p i : Nat}, FlowL s l e p i → ∀ j, j < l.length → GoodTok (l.getD j noT) ∧ (l.getD j noT).err = 0 ∧ (l.getD j noT).next ≤ s.size ∧ ((l.getD j noT).kind = 1 → j + 1 = l.length ∧ e = 0) ∧ ((l.getD j noT).kind ≠ 1 → FlowL s (l.drop (j + 1)) e p (l.getD j noT).next)
  | [], _, _, _, _, j, hj => by simp at hj
  | x :: l, e, p, i, h, 0, _ => by
    refine ⟨h.2.2.1, h.2.1, h.2.2.2.1, fun hk => ?_, fun hk => ?_⟩
    · rcases h.2.2.2.2 with g | g
      · exact ⟨by rw [g.2.1]; rfl, g.2.2⟩
      · exact absurd hk g.1
    · rcases h.2.2.2.2 with g | g
      · exact absurd g.1 hk
      · exact g.2
  | x :: l, e, p, i, h, j + 1, hj => by
    rcases h.2.2.2.2 with g | g
    · rw [g.2.1] at hj; simp at hj
    · have ih := flow_at g.2 j (by simpa using hj)
      refine ⟨ih.1, ih.2.1, ih.2.2.1, fun hk => ?_, fun hk => ih.2.2.2.2 hk⟩
      have := ih.2.2.2.1 hk
      exact ⟨by simp only [List.length_cons]; omega, this.2⟩
/-- What the next one is: it is there, or what is wrong is told. -/
def Nexts (s : ByteArray) (S : Src) (i k : Nat) : Prop := (k < S.toks.length ∧ nextF s (i : Int) = tk S k ∧ (tk S k).err = 0) ∨ (¬ k < S.toks.length ∧ (nextF s (i : Int)).err = S.err ∧ S.err ≠ 0 ∧ (nextF s (i : Int)).next = S.place)
theorem nexts_of {s : ByteArray} {S : Src} {i k : Nat} (h : FlowL s (S.toks.drop k) S.err S.place i) : Nexts s S i k := by
  cases hd : S.toks.drop k with
  | nil =>
    rw [hd] at h
    exact .inr ⟨by have := congrArg List.length hd; simp at this; omega, h⟩
  | cons x l =>
    rw [hd] at h
    have hk : k < S.toks.length := by have := congrArg List.length hd; simp at this; omega
    have hx : tk S k = x := by
      unfold tk
      rw [List.getD_eq_getElem?_getD, List.getElem?_eq_getElem hk]
      show S.toks[k] = x
      have := List.drop_eq_getElem_cons hk
      rw [hd] at this
      injection this with h1 _; exact h1.symm
    exact .inl ⟨hk, by rw [hx]; exact h.1, by rw [hx]; exact h.2.1⟩
theorem nexts_first (s : ByteArray) : Nexts s (srcF s) 0 0 := nexts_of (flow_src s)
theorem nexts_on {s : ByteArray} {i : Nat} (hi : i < (srcF s).toks.length) (hk : (tk (srcF s) i).kind ≠ 1) : Nexts s (srcF s) (tk (srcF s) i).next (i + 1) :=
  nexts_of ((flow_at (flow_src s) i hi).2.2.2.2 hk)
theorem good_at {s : ByteArray} {i : Nat} (hi : i < (srcF s).toks.length) : GoodTok (tk (srcF s) i) := (flow_at (flow_src s) i hi).1
theorem lexd (s : ByteArray) : Lexd (srcF s) where
  kinds i hi := tok_kind (good_at hi)
  more i hi hk := by
    rcases nexts_on hi hk with h | h
    · exact .inl h.1
    · exact .inr h.2.2.1
  start := by
    rcases nexts_first s with h | h
    · exact .inl h.1
    · exact .inr h.2.2.1
/-- How far it goes: at least n tokens, and a token is there. -/
def Fwd {α : Type} (S : Src) (n i : Nat) (g : Got α) : Prop := ∀ x j, g = .ok x j → i + n ≤ j ∧ j < S.toks.length
section
variable {S : Src}
theorem fwd_adv {α : Type} (i : Nat) (x : α) : Fwd S 1 i (adv S i x) := fun y j h => by
  unfold adv at h
  split at h
  · cases h; exact ⟨Nat.le_refl _, by assumption⟩
  · cases h
theorem fwd_ok {α : Type} {i : Nat} (hi : i < S.toks.length) (x : α) : Fwd S 0 i (.ok x i) := fun y j h => by cases h; exact ⟨Nat.le_refl _, hi⟩
theorem fwd_bad {α : Type} (n i : Nat) (e : Int) (p : Nat) : Fwd (α := α) S n i (.bad e p) := fun y j h => by cases h
theorem fwd_out {α : Type} (n i : Nat) : Fwd (α := α) S n i .out := fun y j h => by cases h
theorem Fwd.le {α : Type} {n m i : Nat} {g : Got α} (h : Fwd S n i g) (k : m ≤ n) : Fwd S m i g := fun y j e => ⟨by have := (h y j e).1; omega, (h y j e).2⟩
theorem Fwd.andThen {α β : Type} {n m i : Nat} {g : Got α} {f : α → Nat → Got β} (h : Fwd S n i g) (k : ∀ x j, j < S.toks.length → Fwd S m j (f x j)) : Fwd S (n + m) i (g.andThen f) := fun y j e => by
  cases g with
  | ok x l =>
    have h1 := h x l rfl
    have h2 := k x l h1.2 y j e
    exact ⟨by omega, h2.2⟩
  | bad _ _ => cases e
  | out => cases e
theorem Fwd.ite {α : Type} {n i : Nat} {c : Prop} [Decidable c] {g g' : Got α} (h : Fwd S n i g) (h' : Fwd S n i g') : Fwd S n i (if c then g else g') := by
  split
  · exact h
  · exact h'
theorem fwd_demand (t : ByteArray) (i : Nat) : Fwd S 1 i (demandG S t i) := .ite (fwd_adv i ()) (fwd_bad _ _ _ _)
theorem fwd_take (k : Int) (i : Nat) : Fwd S 1 i (takeG S k i) := .ite (fwd_adv i _) (fwd_bad _ _ _ _)
theorem fwd_name (i : Nat) : Fwd S 1 i (nameG S i) := (fwd_take 2 i).andThen fun x j hj => fwd_ok hj _
theorem fwd_num (i : Nat) : Fwd S 1 i (numG S i) := (fwd_take 3 i).andThen fun x j hj => fwd_ok hj _
theorem fwd_verd (i : Nat) : Fwd S 1 i (verdG S i) := .ite (fwd_bad _ _ _ _) ((fwd_adv i ()).andThen fun x j hj => .ite (((fwd_num j).andThen fun x k hk => fwd_ok hk _).le (Nat.zero_le _)) (fwd_ok hj _))
theorem fwd_call (i : Nat) : Fwd S 1 i (callG S i) := .ite ((fwd_num i).andThen fun x j hj => fwd_ok hj _) ((fwd_name i).andThen fun x j hj => fwd_ok hj _)
theorem fwd_mask {i : Nat} (hi : i < S.toks.length) : Fwd S 0 i (maskG S i) := .ite (((fwd_adv i ()).andThen (m := 1) fun x j hj => fwd_num j).le (Nat.zero_le _)) (fwd_ok hi _)
theorem fwd_rel (i : Nat) : Fwd S 1 i (relG S i) := .ite (fwd_bad _ _ _ _) (fwd_adv i _)
theorem fwd_test (i : Nat) : Fwd S 1 i (testG S i) := .ite (fwd_bad _ _ _ _) ((fwd_adv i ()).andThen (m := 0) fun x j hj => (fwd_mask hj).andThen (m := 0) fun m k hk => ((fwd_rel k).andThen (m := 0) fun r l hl => ((fwd_num l).andThen (m := 0) fun v e he => fwd_ok he _).le (Nat.zero_le _)).le (Nat.zero_le _))
theorem fwd_turns {α : Type} (mark : ByteArray) {item : Nat → Got α} (hit : ∀ i, i < S.toks.length → Fwd S 1 i (item i)) : ∀ n l i, i < S.toks.length → Fwd S 0 i (turnsG S mark item n l i)
  | 0, l, i, hi => fwd_out _ _
  | n + 1, l, i, hi => .ite (((fwd_adv i ()).andThen (m := 0) fun _ j hj => ((hit j hj).andThen (m := 0) fun x k hk => fwd_turns mark hit n _ k hk).le (Nat.zero_le _)).le (Nat.zero_le _)) (fwd_ok hi _)
theorem fwd_byTurns {α : Type} (mark : ByteArray) {item : Nat → Got α} (hit : ∀ i, i < S.toks.length → Fwd S 1 i (item i)) (n i : Nat) (hi : i < S.toks.length) : Fwd S 1 i (byTurnsG S mark item n i) :=
  (hit i hi).andThen fun x j hj => fwd_turns mark hit n _ j hj
theorem fwd_all {one : Nat → Got Ex} (hit : ∀ i, i < S.toks.length → Fwd S 1 i (one i)) (n i : Nat) (hi : i < S.toks.length) : Fwd S 1 i (allG S one n i) :=
  (fwd_byTurns bAnd hit n i hi).andThen fun l j hj => fwd_ok hj _
theorem fwd_exprH {one : Nat → Got Ex} (hit : ∀ i, i < S.toks.length → Fwd S 1 i (one i)) (n i : Nat) (hi : i < S.toks.length) : Fwd S 1 i (exprH S one n i) :=
  (fwd_byTurns bOr (fun i hi => fwd_all hit n i hi) n i hi).andThen fun l j hj => fwd_ok hj _
theorem fwd_open (d i : Nat) : Fwd S 1 i (openG S d i) := .ite (fwd_bad _ _ _ _) (fwd_adv i _)
theorem fwd_one : ∀ n d i, i < S.toks.length → Fwd S 1 i (oneG S n d i)
  | 0, d, i, hi => fwd_out _ _
  | n + 1, d, i, hi => by
    show Fwd S 1 i (oneH S (oneG S n) (fun d => exprH S (oneG S n d) n) d i)
    unfold oneH
    refine .ite ?_ (.ite ?_ (.ite (fwd_adv i _) (.ite (fwd_adv i _) (fwd_test i))))
    · exact (fwd_open d i).andThen (m := 0) fun _ j hj => ((fwd_one n (d + 1) j hj).andThen (m := 0) fun e k hk => fwd_ok hk _).le (Nat.zero_le _)
    · exact (fwd_open d i).andThen (m := 0) fun _ j hj => ((fwd_exprH (fun i hi => fwd_one n (d + 1) i hi) n j hj).andThen (m := 0) fun e k hk => ((fwd_demand bShut k).andThen (m := 0) fun _ l hl => fwd_ok hl _).le (Nat.zero_le _)).le (Nat.zero_le _)
theorem fwd_expr (n d i : Nat) (hi : i < S.toks.length) : Fwd S 1 i (exprG S n d i) := fwd_exprH (fun i hi => fwd_one n d i hi) n i hi
end
end Go.Proofs.YtgeapkjegemkeaaGreatDoor
namespace Go.Proofs.YtgeapkjegemkeaaGreatDoor
set_option linter.unusedSimpArgs false
set_option linter.unusedVariables false
section
variable {S : Src}
/-- What the document's reader tells, with fuel. -/
def SimO {α : Type} (S : Src) (d : Nat) (o : Option (α × Rd)) (g : Got α) : Prop := ∃ x, o = some x ∧ Sim S d x g
def BadO {α : Type} (S : Src) (e : Int) (p : Nat) (o : Option (α × Rd)) : Prop := ∃ x, o = some x ∧ Bad S x.2 e p
theorem loop_bad {word : ByteArray} {item : Rd → Option (Ex × Rd)} {n : Nat} {l : List Ex} {r : Rd} {e : Int} {p : Nat} (hn : 0 < n) (h : Bad S r e p) : BadO S e p (loopF S word item n l r) := by
  obtain ⟨m, rfl⟩ := Nat.exists_eq_succ_of_ne_zero (by omega : n ≠ 0)
  unfold loopF
  by_cases he : r.err ≠ 0
  · rw [if_pos he]; exact ⟨_, rfl, h⟩
  · have hi := h.is 2 word
    rw [if_neg he, if_pos hi.2]; exact ⟨_, rfl, hi.1⟩
theorem loop_sim {word : ByteArray} (hw : kindOf word = 2) {item : Rd → Option (Ex × Rd)} {itemG : Nat → Got Ex} {d N : Nat} (hS : Lexd S)
    (hok : ∀ r i, At S r i d → S.toks.length - i < N → SimO S d (item r) (itemG i)) (hbad : ∀ r e p, Bad S r e p → BadO S e p (item r)) (hf : ∀ i, i < S.toks.length → Fwd S 1 i (itemG i)) :
    ∀ n l r i, At S r i d → S.toks.length - i < n → S.toks.length - i < N → SimO S d (loopF S word item n l r) (turnsG S word itemG n l i)
  | 0, l, r, i, h, hn, _ => by omega
  | n + 1, l, r, i, h, hn, hN => by
    have hlt := h.lt
    have hb := h.isB hS hw
    have hr := h.isR hS hw
    unfold loopF turnsG
    rw [if_neg (fun g => g h.err), hb, hr]
    by_cases ht : (tk S i).text = word
    · rw [decide_eq_true ht, if_neg (by decide), if_pos ht, if_pos ht]
      have hst := h.step hS (h.ne_end hS ht (by rw [hw]; decide)) ()
      unfold adv at hst ⊢
      by_cases hl : i + 1 < S.toks.length
      · rw [if_pos hl] at hst ⊢
        obtain ⟨x, hx, hsim⟩ := hok _ _ hst.2 (by omega)
        rw [hx]
        show SimO S d (loopF S word item n (l ++ [x.1]) x.2) ((itemG (i + 1)).andThen fun y k => turnsG S word itemG n (l ++ [y]) k)
        have hfw := hf (i + 1) hl
        cases hg : itemG (i + 1) with
        | ok y k =>
          rw [hg] at hsim hfw
          obtain ⟨h1, h2⟩ := hsim
          rw [h1]
          have := hfw y k rfl
          exact loop_sim hw hS hok hbad hf n _ _ _ h2 (by omega) (by omega)
        | bad e p =>
          rw [hg] at hsim
          exact loop_bad (by omega) hsim
        | out => rw [hg] at hsim; exact hsim.elim
      · rw [if_neg hl] at hst ⊢
        obtain ⟨x, hx, hb⟩ := hbad _ _ _ hst
        rw [hx]
        exact loop_bad (by omega) hb
    · rw [decide_eq_false ht, if_pos rfl, if_neg ht, if_neg ht]
      exact ⟨_, rfl, rfl, h⟩
theorem all_sim {one : Rd → Option (Ex × Rd)} {oneG : Nat → Got Ex} {d n : Nat} (hn : 0 < n) (hS : Lexd S)
    (hok : ∀ r i, At S r i d → S.toks.length - i < n → SimO S d (one r) (oneG i)) (hbad : ∀ r e p, Bad S r e p → BadO S e p (one r)) (hf : ∀ i, i < S.toks.length → Fwd S 1 i (oneG i)) :
    (∀ r i, At S r i d → S.toks.length - i < n → SimO S d (allW S one n r) (allG S oneG n i)) ∧ (∀ r e p, Bad S r e p → BadO S e p (allW S one n r)) := by
  refine ⟨fun r i h hi => ?_, fun r e p h => ?_⟩
  · obtain ⟨x, hx, hsim⟩ := hok r i h hi
    have hfw := hf i h.lt
    unfold allW allG byTurnsG
    rw [hx]
    simp only
    cases hg : oneG i with
    | ok y k =>
      rw [hg] at hsim hfw
      obtain ⟨h1, h2⟩ := hsim
      have := hfw y k rfl
      obtain ⟨z, hz, hz2⟩ := loop_sim (word := bAnd) (by rfl) hS hok hbad hf n [x.1] x.2 k h2 (by omega) (by omega)
      rw [hz]
      subst h1
      refine ⟨_, rfl, ?_⟩
      show Sim S d (joinE 4 z.1, z.2) ((turnsG S bAnd oneG n [x.1] k).andThen fun l j => .ok (joinE 4 l) j)
      exact Sim.map (x := z.1) (r := z.2) hz2 (joinE 4)
    | bad e p =>
      rw [hg] at hsim
      obtain ⟨z, hz, hz2⟩ := loop_bad (word := bAnd) (item := one) (n := n) (l := [x.1]) hn hsim
      rw [hz]
      exact ⟨_, rfl, hz2⟩
    | out => rw [hg] at hsim; exact hsim.elim
  · obtain ⟨x, hx, hb⟩ := hbad r e p h
    obtain ⟨z, hz, hz2⟩ := loop_bad (word := bAnd) (item := one) (n := n) (l := [x.1]) hn hb
    unfold allW
    rw [hx]
    simp only
    rw [hz]
    exact ⟨_, rfl, hz2⟩
theorem expr_sim {one : Rd → Option (Ex × Rd)} {oneG : Nat → Got Ex} {d n : Nat} (hn : 0 < n) (hS : Lexd S)
    (hok : ∀ r i, At S r i d → S.toks.length - i < n → SimO S d (one r) (oneG i)) (hbad : ∀ r e p, Bad S r e p → BadO S e p (one r)) (hf : ∀ i, i < S.toks.length → Fwd S 1 i (oneG i)) :
    (∀ r i, At S r i d → S.toks.length - i < n → SimO S d (exprW S one n r) (exprH S oneG n i)) ∧ (∀ r e p, Bad S r e p → BadO S e p (exprW S one n r)) := by
  have ha := all_sim hn hS hok hbad hf
  have hfa : ∀ i, i < S.toks.length → Fwd S 1 i (allG S oneG n i) := fun i hi => fwd_all hf n i hi
  refine ⟨fun r i h hi => ?_, fun r e p h => ?_⟩
  · obtain ⟨x, hx, hsim⟩ := ha.1 r i h hi
    have hfw := hfa i h.lt
    unfold exprW exprH byTurnsG
    rw [hx]
    simp only
    cases hg : allG S oneG n i with
    | ok y k =>
      rw [hg] at hsim hfw
      obtain ⟨h1, h2⟩ := hsim
      have := hfw y k rfl
      obtain ⟨z, hz, hz2⟩ := loop_sim (word := bOr) (by rfl) hS ha.1 ha.2 hfa n [x.1] x.2 k h2 (by omega) (by omega)
      rw [hz]
      subst h1
      refine ⟨_, rfl, ?_⟩
      show Sim S d (joinE 5 z.1, z.2) ((turnsG S bOr (allG S oneG n) n [x.1] k).andThen fun l j => .ok (joinE 5 l) j)
      exact Sim.map (x := z.1) (r := z.2) hz2 (joinE 5)
    | bad e p =>
      rw [hg] at hsim
      obtain ⟨z, hz, hz2⟩ := loop_bad (word := bOr) (item := allW S one n) (n := n) (l := [x.1]) hn hsim
      rw [hz]
      exact ⟨_, rfl, hz2⟩
    | out => rw [hg] at hsim; exact hsim.elim
  · obtain ⟨x, hx, hb⟩ := ha.2 r e p h
    obtain ⟨z, hz, hz2⟩ := loop_bad (word := bOr) (item := allW S one n) (n := n) (l := [x.1]) hn hb
    unfold exprW
    rw [hx]
    simp only
    rw [hz]
    exact ⟨_, rfl, hz2⟩
theorem up_at {r : Rd} {i d : Nat} (h : At S r i (d + 1)) : At S (up r) i d := ⟨h.err, h.is_, by show r.deep - 1 = _; rw [h.deep]; omega, h.lt⟩
theorem peek_deep (r : Rd) (v : Int) : ({ r with deep := v } : Rd).peekR S = { r.peekR S with deep := v } := by
  unfold Rd.peekR
  by_cases h : r.err = 0 ∧ ¬ r.at_ < S.toks.length
  · rw [if_pos h, if_pos h]
  · rw [if_neg h, if_neg h]
theorem deep_bad {r : Rd} {e : Int} {p : Nat} (v : Int) (h : Bad S r e p) : Bad S { r with deep := v } e p :=
  ⟨h.ne, by rw [peek_deep]; exact h.err, by rw [peek_deep]; exact h.bad⟩
theorem up_bad {r : Rd} {e : Int} {p : Nat} (h : Bad S r e p) : Bad S (up r) e p := deep_bad _ h
theorem one_bad {one expr : Rd → Option (Ex × Rd)} {r : Rd} {e : Int} {p : Nat} (h : Bad S r e p) : BadO S e p (oneS S one expr r) := by
  have hn := h.next
  have he : (r.nextR S).err ≠ 0 := by
    unfold Rd.nextR
    rw [if_neg (fun g => h.stuck g)]; exact h.stuck
  unfold oneS
  simp only
  rw [if_pos he]
  exact ⟨_, rfl, hn⟩
theorem deeper_at {r : Rd} {i d : Nat} (h : At S r i d) (hd : d ≤ 64) (hS : Lexd S) (hk : (tk S i).kind ≠ 1) (p : Nat) (hp : p = (tk S i).pos) :
    (d = 64 ∧ (deeperR r.step p).err ≠ 0 ∧ Bad S (deeperR r.step p) 62 p) ∨ (d < 64 ∧ (deeperR r.step p).err = 0 ∧ ((i + 1 < S.toks.length ∧ At S (deeperR r.step p) (i + 1) (d + 1)) ∨ (¬ i + 1 < S.toks.length ∧ Bad S (deeperR r.step p) S.err S.place))) := by
  have hde : r.step.deep = (d : Int) := h.deep
  have her : r.step.err = 0 := h.err
  by_cases h64 : d = 64
  · refine .inl ⟨h64, ?_⟩
    have e : deeperR r.step p = ({ r.step with deep := r.step.deep + 1 } : Rd).fails 62 p := by unfold deeperR; rw [if_pos (by rw [hde]; omega)]
    rw [e]
    refine ⟨?_, Bad.set (r := { r.step with deep := r.step.deep + 1 }) her (by decide) p⟩
    unfold Rd.fails
    rw [if_pos her]; exact (by decide : (62 : Int) ≠ 0)
  · refine .inr ⟨by omega, ?_⟩
    have e : deeperR r.step p = { r.step with deep := r.step.deep + 1 } := by unfold deeperR; rw [if_neg (by rw [hde]; omega)]
    rw [e]
    refine ⟨her, ?_⟩
    have hst := h.step hS hk ()
    unfold adv at hst
    by_cases hl : i + 1 < S.toks.length
    · rw [if_pos hl] at hst
      exact .inl ⟨hl, hst.2.err, hst.2.is_, by show r.step.deep + 1 = _; rw [hde]; omega, hl⟩
    · rw [if_neg hl] at hst
      exact .inr ⟨hl, deep_bad _ hst⟩
theorem one_sim {one expr : Rd → Option (Ex × Rd)} {oneG' exprG' : Nat → Nat → Got Ex} {N d : Nat} (hd : d ≤ 64) (hS : Lexd S)
    (hok : d < 64 → ∀ r i, At S r i (d + 1) → S.toks.length - i < N → SimO S (d + 1) (one r) (oneG' (d + 1) i)) (hbad : ∀ r e p, Bad S r e p → BadO S e p (one r))
    (hok2 : d < 64 → ∀ r i, At S r i (d + 1) → S.toks.length - i < N → SimO S (d + 1) (expr r) (exprG' (d + 1) i)) (hbad2 : ∀ r e p, Bad S r e p → BadO S e p (expr r))
    {r : Rd} {i : Nat} (h : At S r i d) (hi : S.toks.length - i < N + 1) : SimO S d (oneS S one expr r) (oneH S oneG' exprG' d i) := by
  have hlt := h.lt
  have hnx : r.nextR S = r.step := h.nextR
  have her : r.step.err = 0 := h.err
  have hkd := h.kind hS
  unfold oneS oneH
  simp only
  rw [hnx, h.peekT, if_neg (fun g => g her)]
  by_cases h1 : (tk S i).text = bNot
  · have hk : (tk S i).kind = 2 := by rw [hkd, h1]; rfl
    rw [if_pos ⟨hk, h1⟩, if_pos h1]
    rcases deeper_at h hd hS (by rw [hk]; decide) _ rfl with ⟨h64, he, hb⟩ | ⟨h64, he, hrest⟩
    · rw [if_neg he]
      unfold openG
      rw [if_pos h64]
      exact ⟨_, rfl, up_bad hb⟩
    · rw [if_pos he]
      unfold openG adv
      rw [if_neg (by omega)]
      rcases hrest with ⟨hl, ha⟩ | ⟨hl, hb⟩
      · rw [if_pos hl]
        obtain ⟨x, hx, hsim⟩ := hok h64 _ _ ha (by omega)
        rw [hx]
        show SimO S d (some (Ex.node 3 [x.1], up x.2)) ((oneG' (d + 1) (i + 1)).andThen fun e k => .ok (.node 3 [e]) k)
        refine ⟨_, rfl, ?_⟩
        cases hg : oneG' (d + 1) (i + 1) with
        | ok y k => rw [hg] at hsim; obtain ⟨e1, e2⟩ := hsim; exact ⟨by rw [e1], up_at e2⟩
        | bad e p => rw [hg] at hsim; exact up_bad hsim
        | out => rw [hg] at hsim; exact hsim.elim
      · rw [if_neg hl]
        obtain ⟨x, hx, hb⟩ := hbad _ _ _ hb
        rw [hx]
        exact ⟨_, rfl, up_bad hb⟩
  rw [if_neg (fun g => h1 g.2), if_neg h1]
  by_cases h2 : (tk S i).text = bOpen
  · have hk : (tk S i).kind = 4 := by rw [hkd, h2]; rfl
    rw [if_pos ⟨hk, h2⟩, if_pos h2]
    rcases deeper_at h hd hS (by rw [hk]; decide) _ rfl with ⟨h64, he, hb⟩ | ⟨h64, he, hrest⟩
    · rw [if_neg he]
      unfold openG
      rw [if_pos h64]
      exact ⟨_, rfl, up_bad hb⟩
    · rw [if_pos he]
      unfold openG adv
      rw [if_neg (by omega)]
      rcases hrest with ⟨hl, ha⟩ | ⟨hl, hb⟩
      · rw [if_pos hl]
        obtain ⟨x, hx, hsim⟩ := hok2 h64 _ _ ha (by omega)
        rw [hx]
        show SimO S d (some (x.1, up (x.2.wantR S 4 bShut))) ((exprG' (d + 1) (i + 1)).andThen fun e k => (demandG S bShut k).andThen fun _ l => .ok e l)
        refine ⟨_, rfl, ?_⟩
        cases hg : exprG' (d + 1) (i + 1) with
        | ok y k =>
          rw [hg] at hsim; obtain ⟨e1, e2⟩ := hsim
          have hw := e2.want hS (t := bShut) (k := 4) (by rfl) (by decide)
          show Sim S d _ ((demandG S bShut k).andThen fun _ l => .ok y l)
          cases hg2 : demandG S bShut k with
          | ok u l => rw [hg2] at hw; exact ⟨e1, up_at hw.2⟩
          | bad e p => rw [hg2] at hw; exact up_bad hw
          | out => rw [hg2] at hw; exact hw.elim
        | bad e p => rw [hg] at hsim; exact up_bad (Bad.want hsim 4 bShut)
        | out => rw [hg] at hsim; exact hsim.elim
      · rw [if_neg hl]
        obtain ⟨x, hx, hb⟩ := hbad2 _ _ _ hb
        rw [hx]
        exact ⟨_, rfl, up_bad (Bad.want hb 4 bShut)⟩
  rw [if_neg (fun g => h2 g.2), if_neg h2]
  by_cases h3 : (tk S i).text = bTrue
  · have hk : (tk S i).kind = 2 := by rw [hkd, h3]; rfl
    rw [if_pos ⟨hk, h3⟩, if_pos h3]
    exact ⟨_, rfl, h.step hS (by rw [hk]; decide) _⟩
  rw [if_neg (fun g => h3 g.2), if_neg h3]
  by_cases h4 : (tk S i).text = bFalse
  · have hk : (tk S i).kind = 2 := by rw [hkd, h4]; rfl
    rw [if_pos ⟨hk, h4⟩, if_pos h4]
    exact ⟨_, rfl, h.step hS (by rw [hk]; decide) _⟩
  rw [if_neg (fun g => h4 g.2), if_neg h4]
  by_cases h5 : 0 ≤ fieldF (tk S i).text
  · have hk : (tk S i).kind = 2 := by rw [hkd]; exact field_kind h5
    rw [if_pos ⟨hk, h5⟩]
    exact ⟨_, rfl, test_sim _ rfl hS (h.step hS (by rw [hk]; decide) ()) (by omega)⟩
  · rw [if_neg (fun g => h5 g.2)]
    unfold testG
    rw [if_pos (by omega)]
    exact ⟨_, rfl, Bad.set (r := r.step) her (by decide) _⟩
theorem one_simN (hS : Lexd S) : ∀ n d, d ≤ 64 → (∀ r i, At S r i d → S.toks.length - i < n → SimO S d (oneN S n r) (oneG S n d i)) ∧ (0 < n → ∀ r e p, Bad S r e p → BadO S e p (oneN S n r))
  | 0, d, hd => ⟨fun r i h hi => by omega, fun h => absurd h (by omega)⟩
  | n + 1, d, hd => by
    refine ⟨fun r i h hi => ?_, fun _ r e p h => one_bad h⟩
    by_cases hn : 0 < n
    · exact one_sim (N := n) hd hS (fun h64 => (one_simN hS n (d + 1) (by omega)).1) ((one_simN hS n d hd).2 hn)
        (fun h64 => (expr_sim hn hS (one_simN hS n (d + 1) (by omega)).1 ((one_simN hS n (d + 1) (by omega)).2 hn) (fun i hi => fwd_one n (d + 1) i hi)).1)
        (fun r e p hb => (expr_sim (d := d) hn hS (one_simN hS n d hd).1 ((one_simN hS n d hd).2 hn) (fun i hi => fwd_one n d i hi)).2 r e p hb) h hi
    · have := h.lt
      omega
end
end Go.Proofs.YtgeapkjegemkeaaGreatDoor
namespace Go.Proofs.YtgeapkjegemkeaaGreatDoor
set_option linter.unusedSimpArgs false
set_option linter.unusedVariables false

/-- No expression in it has too many arguments. -/
inductive SmEx : Ex → Prop
  | mk {op : Int} {l : List Ex} {f : Int} {m : Nat} {r : Int} {v : Nat} (h : l.length ≤ 70000) (ha : ∀ e ∈ l, SmEx e) : SmEx (.mk op l f m r v)
theorem SmEx.len {x : Ex} (h : SmEx x) : x.args.length ≤ 70000 := by cases h; assumption
theorem SmEx.at_ {x : Ex} (h : SmEx x) (k : Nat) (hk : k < x.args.length) : SmEx (x.args.getD k .zero) := by
  cases h with
  | mk h ha =>
    rename_i op l f m r v
    have hk' : k < l.length := hk
    show SmEx (l.getD k .zero)
    rw [List.getD_eq_getElem?_getD, List.getElem?_eq_getElem hk']
    exact ha _ (List.getElem_mem hk')
/-- What is told is such. -/
def All {α : Type} (P : α → Prop) (g : Got α) : Prop := ∀ x j, g = .ok x j → P x
section
variable {S : Src}
theorem all_bad {α : Type} {P : α → Prop} (e : Int) (p : Nat) : All P (.bad e p) := fun x j h => by cases h
theorem all_out {α : Type} {P : α → Prop} : All P .out := fun x j h => by cases h
theorem all_ok {α : Type} {P : α → Prop} {x : α} (h : P x) (j : Nat) : All P (.ok x j) := fun y k e => by cases e; exact h
theorem all_adv {α : Type} {P : α → Prop} {x : α} (h : P x) (i : Nat) : All P (adv S i x) := fun y k e => by
  unfold adv at e
  split at e
  · cases e; exact h
  · cases e
theorem all_then {α β : Type} {P : β → Prop} {g : Got α} {f : α → Nat → Got β} (h : ∀ x j, g = .ok x j → All P (f x j)) : All P (g.andThen f) := fun y k e => by
  cases g with
  | ok x j => exact h x j rfl y k e
  | bad _ _ => cases e
  | out => cases e
theorem all_ite {α : Type} {P : α → Prop} {c : Prop} [Decidable c] {g g' : Got α} (h : All P g) (h' : All P g') : All P (if c then g else g') := by
  split
  · exact h
  · exact h'
theorem turns_len {mark : ByteArray} {α : Type} {P : α → Prop} {item : Nat → Got α} (hP : ∀ i, i < S.toks.length → All P (item i)) (hit : ∀ i, i < S.toks.length → Fwd S 1 i (item i)) : ∀ n l i, i < S.toks.length → l.length ≤ i + 1 → (∀ e ∈ l, P e) → All (fun l : List α => l.length ≤ S.toks.length ∧ ∀ e ∈ l, P e) (turnsG S mark item n l i)
  | 0, l, i, hi, hl, hp => all_out
  | n + 1, l, i, hi, hl, hp => by
    unfold turnsG
    refine all_ite (all_then fun _ j hj => all_then fun x k hk => ?_) (all_ok ⟨by omega, hp⟩ i)
    have h1 := fwd_adv (S := S) i () _ j hj
    have h2 := hit j h1.2 x k hk
    refine turns_len hP hit n _ k h2.2 (by rw [List.length_append]; simp only [List.length_cons, List.length_nil]; omega) (fun e he => ?_)
    rcases List.mem_append.1 he with he | he
    · exact hp e he
    · rw [List.mem_singleton] at he; subst he; exact hP j h1.2 _ k hk
theorem byTurns_len {mark : ByteArray} {α : Type} {P : α → Prop} {item : Nat → Got α} (hP : ∀ i, i < S.toks.length → All P (item i)) (hit : ∀ i, i < S.toks.length → Fwd S 1 i (item i)) (n i : Nat) (hi : i < S.toks.length) : All (fun l : List α => l.length ≤ S.toks.length ∧ ∀ e ∈ l, P e) (byTurnsG S mark item n i) :=
  all_then fun x j hj => by
    have h := hit i hi x j hj
    exact turns_len hP hit n [x] j h.2 (by simp) (fun e he => by rw [List.mem_singleton] at he; subst he; exact hP i hi _ j hj)
theorem sm_join {o : Int} {l : List Ex} (hs : S.toks.length ≤ 65537) (h : l.length ≤ S.toks.length ∧ ∀ e ∈ l, SmEx e) : SmEx (joinE o l) := by
  unfold joinE
  split
  · exact h.2 _ (by simp)
  · exact .mk (by omega) h.2
theorem sm_leaf (o f : Int) (m : Nat) (r : Int) (v : Nat) : SmEx (.mk o [] f m r v) := .mk (by simp) (fun e he => by cases he)
theorem sm_exprH (hs : S.toks.length ≤ 65537) {one : Nat → Got Ex} (hP : ∀ i, i < S.toks.length → All SmEx (one i)) (hit : ∀ i, i < S.toks.length → Fwd S 1 i (one i)) (n i : Nat) (hi : i < S.toks.length) : All SmEx (exprH S one n i) :=
  all_then fun l j hj => all_ok (sm_join hs (byTurns_len (fun i hi => all_then fun l j hj => all_ok (sm_join hs (byTurns_len hP hit n i hi l j hj)) j) (fun i hi => fwd_all hit n i hi) n i hi l j hj)) j
theorem sm_test (i : Nat) : All SmEx (testG S i) :=
  all_ite (all_bad _ _) (all_then fun _ _ _ => all_then fun m _ _ => all_then fun r _ _ => all_then fun v e _ => all_ok (sm_leaf _ _ _ _ _) e)
theorem sm_one (hs : S.toks.length ≤ 65537) : ∀ n d i, i < S.toks.length → All SmEx (oneG S n d i)
  | 0, d, i, hi => all_out
  | n + 1, d, i, hi => by
    show All SmEx (oneH S (oneG S n) (fun d => exprH S (oneG S n d) n) d i)
    unfold oneH
    refine all_ite ?_ (all_ite ?_ (all_ite (all_adv (sm_leaf _ _ _ _ _) i) (all_ite (all_adv (sm_leaf _ _ _ _ _) i) (sm_test i))))
    · refine all_then fun _ j hj => all_then fun e k hk => all_ok (.mk (by simp) (fun x hx => ?_)) k
      rw [List.mem_singleton] at hx
      subst hx
      exact sm_one hs n (d + 1) j (fwd_open d i _ j hj).2 _ k hk
    · refine all_then fun _ j hj => all_then fun e k hk => all_then fun _ l _ => all_ok ?_ l
      exact sm_exprH hs (fun i hi => sm_one hs n (d + 1) i hi) (fun i hi => fwd_one n (d + 1) i hi) n j (fwd_open d i _ j hj).2 _ k hk
theorem sm_expr (hs : S.toks.length ≤ 65537) (n d i : Nat) (hi : i < S.toks.length) : All SmEx (exprG S n d i) := sm_exprH hs (fun i hi => sm_one hs n d i hi) (fun i hi => fwd_one n d i hi) n i hi
theorem sm_whole (hs : S.toks.length ≤ 65537) (n i : Nat) (hi : i < S.toks.length) : All SmEx (wholeG S n i) := all_then fun e j hj => all_ite (all_ok (sm_expr hs n 0 i hi _ j hj) j) (all_bad _ _)
/-- A rule's expression is such; it has few calls. -/
def SmRu (r : Ru) : Prop := SmEx r.when_ ∧ r.calls.length ≤ 70000
def SmPo (p : Po) : Prop := p.rules.length ≤ 70000 ∧ ∀ r ∈ p.rules, SmRu r
theorem sm_rule (hs : S.toks.length ≤ 65537) (n i : Nat) : All SmRu (ruleG S n i) :=
  all_then fun _ j hj => all_then fun cs k hk => all_then fun e l hl => all_then fun _ m _ => all_then fun v o _ => all_then fun _ p _ => all_ok ⟨by
    have hj2 := (fwd_demand bOn i _ j hj).2
    have hk2 := (fwd_byTurns (S := S) bComma (item := callG S) (fun i _ => fwd_call i) n j hj2 cs k hk).2
    refine (show All SmEx (whenG S n k) from all_ite (all_then fun _ j hj => ?_) (all_ok (sm_leaf _ _ _ _ _) k)) e l hl
    exact sm_expr hs n 0 j (fwd_adv k () _ j hj).2, by
    have hj2 := (fwd_demand bOn i _ j hj).2
    have := (byTurns_len (S := S) (mark := bComma) (P := fun _ => True) (item := callG S) (fun _ _ _ _ _ => trivial) (fun i _ => fwd_call i) n j hj2 cs k hk).1
    show cs.length ≤ 70000
    omega⟩ p
theorem sm_rules (hs : S.toks.length ≤ 65537) (n : Nat) : ∀ m l i, l.length ≤ 512 → (∀ r ∈ l, SmRu r) → All (fun l => l.length ≤ 512 ∧ ∀ r ∈ l, SmRu r) (rulesG S n m l i)
  | 0, l, i, _, _ => all_out
  | m + 1, l, i, hl, hp => by
    unfold rulesG
    by_cases h5 : l.length = 512
    · refine all_ite (all_ok ⟨hl, hp⟩ i) ?_
      by_cases ht : (tk S i).text = bOn
      · rw [if_pos ⟨h5, ht⟩]; exact all_bad _ _
      · rw [if_neg (fun e => ht e.2)]
        refine all_then fun x j hj => ?_
        unfold ruleG demandG at hj
        rw [if_neg ht] at hj; cases hj
    · refine all_ite (all_ok ⟨hl, hp⟩ i) (all_ite (all_bad _ _) (all_then fun x j hj => ?_))
      refine sm_rules hs n m _ j (by rw [List.length_append]; simp only [List.length_cons, List.length_nil]; omega) (fun r hr => ?_)
      rcases List.mem_append.1 hr with hr | hr
      · exact hp r hr
      · rw [List.mem_singleton] at hr; subst hr; exact sm_rule hs n i _ j hj
theorem sm_policy (hs : S.toks.length ≤ 65537) (n i : Nat) : All SmPo (policyG S n i) :=
  all_then fun _ _ _ => all_then fun _ _ _ => all_then fun _ _ _ => all_then fun _ _ _ => all_then fun _ _ _ => all_then fun _ _ _ => all_then fun _ _ _ => all_then fun _ _ _ => all_then fun _ k _ => all_then fun l m hm => all_ok (by
    have := sm_rules hs n n [] k (by simp) (fun r hr => by cases hr) l m hm
    exact ⟨Nat.le_trans this.1 (by decide), this.2⟩) m
end
end Go.Proofs.YtgeapkjegemkeaaGreatDoor
namespace Go.Proofs.YtgeapkjegemkeaaGreatDoor
set_option linter.unusedSimpArgs false
set_option linter.unusedVariables false
section
variable (S : Src)
/-- Where a reader may be. -/
structure J (r : Rd) : Prop where
  le : r.at_ ≤ S.toks.length + 1
  ok : r.err = 0 → r.at_ ≤ S.toks.length
/-- What a step leaves. -/
structure Goes (r r' : Rd) : Prop where
  at_ : r.at_ ≤ r'.at_
  deep : r'.deep = r.deep
  j : J S r'
end
section
variable {S : Src}
theorem Goes.refl {r : Rd} (h : J S r) : Goes S r r := ⟨Nat.le_refl _, rfl, h⟩
theorem Goes.trans {a b c : Rd} (h : Goes S a b) (k : Goes S b c) : Goes S a c := ⟨Nat.le_trans h.at_ k.at_, k.deep.trans h.deep, k.j⟩
end
end Go.Proofs.YtgeapkjegemkeaaGreatDoor
