/-
  The document reads rules and policies: contracts. Conditions: those that each names.
-/
import Derived.Test.YtgeapkjegemkeaaGreatDoorZDEx
import Derived.Test.YtgeapkjegemkeaaGreatDoorMemory
import Derived.Test.YtgeapkjegemkeaaGreatDoorRowsOwn
import Derived.Test.YtgeapkjegemkeaaGreatDoorRegion
import Derived.Test.YtgeapkjegemkeaaGreatDoorZRule
import Derived.Test.YtgeapkjegemkeaaGreatDoorZWhole
import Derived.Test.YtgeapkjegemkeaaGreatDoorPolSame
import Derived.Laws.StructEq
import Derived.Test.YtgeapkjegemkeaaGreatDoorPPolParse
import Derived.Test.YtgeapkjegemkeaaGreatDoorPolPure
namespace Go.Proofs.YtgeapkjegemkeaaGreatDoor
open Go Go.RowKit
set_option linter.unusedSimpArgs false
set_option linter.unusedVariables false

/-- The calls of a rule. -/
def callsS (S : Src) : Nat → List (ByteArray × Nat) → Rd → Option (List (ByteArray × Nat) × Rd)
  | 0, _, _ => none
  | n + 1, l, r => if (callR S r).isB S 4 bComma = true then callsS S n (l ++ [callT S r]) ((callR S r).isR S 4 bComma) else some (l ++ [callT S r], (callR S r).isR S 4 bComma)
section
variable {S : Src}
theorem bad_call6 {r : Rd} {e : Int} {p : Nat} (h : Bad S r e p) : Bad S (callR S r) e p := by
  unfold callR
  rw [h.noT_of, if_neg (show ¬ noT.kind = 2 by decide), if_neg (show ¬ noT.kind = 3 by decide), Rd.fails_err _ _ _ h.stuck]
  exact h.peeked
theorem calls_bad {n : Nat} {l : List (ByteArray × Nat)} {r : Rd} {e : Int} {p : Nat} (hn : 0 < n) (h : Bad S r e p) : BadO S e p (callsS S n l r) := by
  obtain ⟨m, rfl⟩ := Nat.exists_eq_succ_of_ne_zero (by omega : n ≠ 0)
  have hi := (bad_call6 h).is 4 bComma
  unfold callsS
  rw [if_neg (by rw [hi.2]; decide)]
  exact ⟨_, rfl, hi.1⟩
theorem calls_sim (hS : Lexd S) : ∀ n l r i, At S r i 0 → S.toks.length - i ≤ n → SimO S 0 (callsS S n l r) ((callG S i).andThen fun x j => turnsG S bComma (callG S) n (l ++ [x]) j)
  | 0, l, r, i, h, hn => by have := h.lt; omega
  | n + 1, l, r, i, h, hn => by
    have hc := call_sim h hS
    have hf := fwd_call (S := S) i
    have hlt := h.lt
    unfold callsS
    generalize callG S i = g at hc hf ⊢
    rcases g with ⟨v, j⟩ | ⟨e, p⟩ | _
    · obtain ⟨hv, ha⟩ := hc
      simp only at hv ha
      have hlj := ha.lt
      have hij : i + 1 ≤ j := (hf v j rfl).1
      rw [hv, ha.isB hS (show kindOf bComma = 4 by decide), ha.isR hS (show kindOf bComma = 4 by decide)]
      show SimO S 0 _ (turnsG S bComma (callG S) (n + 1) (l ++ [v]) j)
      unfold turnsG
      by_cases ht : (tk S j).text = bComma
      · rw [if_pos (decide_eq_true ht), if_pos ht, if_pos ht]
        have hst := ha.step hS (ha.ne_end hS ht (by decide)) ()
        unfold adv at hst ⊢
        by_cases hl : j + 1 < S.toks.length
        · rw [if_pos hl] at hst ⊢
          exact calls_sim hS n (l ++ [v]) _ (j + 1) hst.2 (by omega)
        · rw [if_neg hl] at hst ⊢
          exact calls_bad (by omega) hst
      · rw [if_neg (by rw [decide_eq_false ht]; decide), if_neg ht, if_neg ht]
        exact ⟨_, rfl, rfl, ha⟩
    · have hi := (show Bad S (callR S r) e p from hc).is 4 bComma
      rw [if_neg (by rw [hi.2]; decide)]
      exact ⟨_, rfl, hi.1⟩
    · exact hc.elim
theorem BadO.then {α β : Type} {e : Int} {p : Nat} {o : Option (α × Rd)} {f : α × Rd → Option (β × Rd)} (h : BadO S e p o) (hf : ∀ x r, Bad S r e p → BadO S e p (f (x, r))) : BadO S e p (o.bind f) := by
  obtain ⟨⟨x, r⟩, rfl, hb⟩ := h
  exact hf x r hb
theorem SimO.then {α β : Type} {d d' : Nat} {o : Option (α × Rd)} {g : Got α} {f : α × Rd → Option (β × Rd)} {k : α → Nat → Got β} (h : SimO S d o g) (hok : ∀ x r j, At S r j d → g = .ok x j → SimO S d' (f (x, r)) (k x j)) (hbad : ∀ x r e p, Bad S r e p → BadO S e p (f (x, r))) : SimO S d' (o.bind f) (g.andThen k) := by
  obtain ⟨⟨x, r⟩, rfl, hs⟩ := h
  rcases g with ⟨v, j⟩ | ⟨e, p⟩ | _
  · obtain ⟨rfl, ha⟩ := hs
    exact hok _ r j ha rfl
  · exact hbad x r e p hs
  · exact hs.elim
theorem SimO.of {α : Type} {d : Nat} {x : α × Rd} {g : Got α} (h : Sim S d x g) : SimO S d (some x) g := ⟨x, rfl, h⟩
/-- What a rule asks for. -/
def whenS (S : Src) (n : Nat) (r : Rd) : Option (Ex × Rd) := if r.isB S 2 bWhen = true then exprN S n (r.isR S 2 bWhen) else some (.plain 1, r.isR S 2 bWhen)
/-- An expression that begins at any place. -/
theorem expr_at (hS : Lexd S) {n : Nat} (hn : S.toks.length < n) : (∀ r i, At S r i 0 → SimO S 0 (exprN S n r) (exprG S n 0 i)) ∧ (∀ r e p, Bad S r e p → BadO S e p (exprN S n r)) := by
  have h1 := one_simN hS n 0 (by decide)
  have h2 := expr_sim (d := 0) (by omega) hS h1.1 (h1.2 (by omega)) (fun i hi => fwd_one n 0 i hi)
  exact ⟨fun r i h => h2.1 r i h (by omega), h2.2⟩
theorem when_sim (hS : Lexd S) {n : Nat} (hn : S.toks.length < n) {r : Rd} {i : Nat} (h : At S r i 0) : SimO S 0 (whenS S n r) (whenG S n i) := by
  unfold whenS whenG
  rw [h.isB hS (show kindOf bWhen = 2 by decide), h.isR hS (show kindOf bWhen = 2 by decide)]
  by_cases ht : (tk S i).text = bWhen
  · rw [if_pos (decide_eq_true ht), if_pos ht, if_pos ht]
    have hst := h.step hS (h.ne_end hS ht (by decide)) ()
    unfold adv at hst ⊢
    by_cases hl : i + 1 < S.toks.length
    · rw [if_pos hl] at hst ⊢
      exact (expr_at hS hn).1 _ (i + 1) hst.2
    · rw [if_neg hl] at hst ⊢
      exact (expr_at hS hn).2 _ _ _ hst
  · rw [if_neg (by rw [decide_eq_false ht]; decide), if_neg ht, if_neg ht]
    exact ⟨_, rfl, rfl, h⟩
theorem when_bad (hS : Lexd S) {n : Nat} (hn : S.toks.length < n) {r : Rd} {e : Int} {p : Nat} (h : Bad S r e p) : BadO S e p (whenS S n r) := by
  have hi := h.is 2 bWhen
  unfold whenS
  rw [if_neg (by rw [hi.2]; decide)]
  exact ⟨_, rfl, hi.1⟩
/-- A rule behind its on. -/
def ruleS (S : Src) (n : Nat) (r : Rd) : Option (Ru × Rd) :=
  (callsS S n [] r).bind fun c => (whenS S n c.2).bind fun x => some (⟨c.1, x.1, verdT S (x.2.wantR S 2 bDo)⟩, (verdR S (x.2.wantR S 2 bDo)).wantR S 4 bSemi)
theorem tail_bad {r : Rd} {e : Int} {p : Nat} (h : Bad S r e p) : Bad S ((verdR S (r.wantR S 2 bDo)).wantR S 4 bSemi) e p := (verd_bad (h.want 2 bDo)).want 4 bSemi
theorem rule_bad (hS : Lexd S) {n : Nat} (hn : S.toks.length < n) {r : Rd} {e : Int} {p : Nat} (h : Bad S r e p) : BadO S e p (ruleS S n r) :=
  (calls_bad (by omega) h).then fun c q hq => (when_bad hS hn hq).then fun x q2 hq2 => ⟨_, rfl, tail_bad hq2⟩
/-- The grammar's rule, behind its on. -/
def restG (S : Src) (n j : Nat) : Got Ru := (byTurnsG S bComma (callG S) n j).andThen fun cs k => (whenG S n k).andThen fun e l =>
    (demandG S bDo l).andThen fun _ m => (verdG S m).andThen fun v o => (demandG S bSemi o).andThen fun _ p => .ok ⟨cs, e, v⟩ p
theorem rule_sim (hS : Lexd S) {n : Nat} (hn : S.toks.length < n) {r : Rd} {i : Nat} (h : At S r i 0) : SimO S 0 (ruleS S n r) (restG S n i) := by
  refine SimO.then (calls_sim hS n [] r i h (by omega)) (fun cs q k hk _ => ?_) (fun cs q e p hq => (when_bad hS hn hq).then fun x q2 hq2 => ⟨_, rfl, tail_bad hq2⟩)
  refine SimO.then (when_sim hS hn hk) (fun x q2 l hl _ => ?_) (fun x q2 e p hq2 => ⟨_, rfl, tail_bad hq2⟩)
  refine SimO.of ?_
  refine Sim.andThen (hl.want hS (show kindOf bDo = 2 by decide) (by decide)) (fun m hm _ => ?_) (fun e p hb => (verd_bad hb).want 4 bSemi)
  have hv := verd_sim hm hS
  refine Sim.andThen hv (fun o ho hg => ?_) (fun e p hb => hb.want 4 bSemi)
  exact Sim.andThen (ho.want hS (show kindOf bSemi = 4 by decide) (by decide)) (fun p2 hp2 _ => ⟨rfl, hp2⟩) (fun e p hb => hb)
end
end Go.Proofs.YtgeapkjegemkeaaGreatDoor
namespace Go.Proofs.YtgeapkjegemkeaaGreatDoor
open Go Go.RowKit
set_option linter.unusedSimpArgs false
set_option linter.unusedVariables false

/-- The rules, as the document reads them. -/
def rulesS (S : Src) (n : Nat) : Nat → List Ru → Rd → Option (List Ru × Rd)
  | 0, _, _ => none
  | m + 1, l, r =>
    if r.err ≠ 0 then some (l, r)
    else if (r.peekR S).isB S 2 bOn = true then
      if l.length = 512 then some (l, ((r.peekR S).isR S 2 bOn).fails 63 (r.peekT S).pos)
      else (ruleS S n ((r.peekR S).isR S 2 bOn)).bind fun x => rulesS S n m (l ++ [x.1]) x.2
    else some (l, (r.peekR S).isR S 2 bOn)
section
variable {S : Src}
/-- What stands when the text's end has been asked for. -/
def Shut {α : Type} (S : Src) (o : Option (α × Rd)) (g : Got α) : Prop := ∃ x, o = some x ∧ match g with
  | .ok v _ => x.1 = v ∧ (x.2.kindR S 1).err = 0
  | .bad e p => e ≠ 0 ∧ (x.2.kindR S 1).err = e ∧ (x.2.kindR S 1).bad = p
  | .out => False
theorem Bad.shut {α : Type} {r : Rd} {e : Int} {p : Nat} (h : Bad S r e p) (x : α) : Shut S (some (x, r)) (.bad e p : Got α) := ⟨_, rfl, h.ne, end_bad h⟩
theorem BadO.shut {α : Type} {o : Option (α × Rd)} {e : Int} {p : Nat} (h : BadO S e p o) : Shut S o (.bad e p : Got α) := by
  obtain ⟨⟨x, r⟩, rfl, hb⟩ := h
  exact hb.shut x
theorem fwd_when (n k : Nat) (hk : k < S.toks.length) : Fwd S 0 k (whenG S n k) := .ite (((fwd_adv k ()).andThen (m := 1) fun _ j hj => fwd_expr n 0 j hj).le (Nat.zero_le _)) (fwd_ok hk _)
theorem fwd_rest (n i : Nat) (hi : i < S.toks.length) : Fwd S 0 i (restG S n i) :=
  ((fwd_byTurns bComma (fun i _ => fwd_call i) n i hi).andThen (m := 0) fun cs k hk => (fwd_when n k hk).andThen (m := 0) fun e l hl =>
    ((fwd_demand bDo l).andThen (m := 0) fun _ m hm => ((fwd_verd m).andThen (m := 0) fun v o ho => ((fwd_demand bSemi o).andThen (m := 0) fun _ p hp => fwd_ok hp _).le (Nat.zero_le _)).le (Nat.zero_le _)).le (Nat.zero_le _)).le (Nat.zero_le _)
theorem rules_bad {n m : Nat} {l : List Ru} {r : Rd} {e : Int} {p : Nat} (hm : 0 < m) (h : Bad S r e p) : BadO S e p (rulesS S n m l r) := by
  obtain ⟨k, rfl⟩ := Nat.exists_eq_succ_of_ne_zero (by omega : m ≠ 0)
  unfold rulesS
  by_cases he : r.err ≠ 0
  · rw [if_pos he]; exact ⟨_, rfl, h⟩
  · have hi := h.peeked.is 2 bOn
    rw [if_neg he, if_neg (by rw [hi.2]; decide)]
    exact ⟨_, rfl, hi.1⟩
theorem rules_sim (hS : Lexd S) {n : Nat} (hn : S.toks.length < n) : ∀ m l r i, At S r i 0 → S.toks.length - i < m → Shut S (rulesS S n m l r) (rulesG S n m l i)
  | 0, l, r, i, h, hm => by omega
  | m + 1, l, r, i, h, hm => by
    have hlt := h.lt
    unfold rulesS rulesG
    rw [if_neg (fun g => g h.err), h.peekR, h.peekT, h.isB hS (show kindOf bOn = 2 by decide), h.isR hS (show kindOf bOn = 2 by decide)]
    by_cases ht : (tk S i).text = bOn
    · have hk := h.ne_end hS ht (by decide)
      rw [if_pos (decide_eq_true ht), if_pos ht, if_neg hk]
      by_cases hl : l.length = 512
      · rw [if_pos hl, if_pos ⟨hl, ht⟩]
        exact (Bad.set (r := r.step) h.err (by decide) _).shut l
      · rw [if_neg hl, if_neg (fun g => hl g.1)]
        have hst := h.step hS hk ()
        unfold ruleG demandG
        rw [if_pos ht]
        unfold adv at hst ⊢
        by_cases hj : i + 1 < S.toks.length
        · rw [if_pos hj] at hst ⊢
          show Shut S _ ((restG S n (i + 1)).andThen fun x j => rulesG S n m (l ++ [x]) j)
          obtain ⟨⟨x, q⟩, hx, hs⟩ := rule_sim hS hn hst.2
          rw [hx]
          have hf : Fwd S 0 (i + 1) (restG S n (i + 1)) := fwd_rest n (i + 1) hst.2.lt
          generalize restG S n (i + 1) = g at hs hf ⊢
          rcases g with ⟨v, j⟩ | ⟨e, p⟩ | _
          · obtain ⟨h1, ha⟩ := hs
            simp only at h1 ha
            subst h1
            have := (hf x j rfl).1
            exact rules_sim hS hn m (l ++ [x]) q j ha (by omega)
          · exact (rules_bad (by omega) (show Bad S q e p from hs)).shut
          · exact hs.elim
        · rw [if_neg hj] at hst ⊢
          exact ((rule_bad hS hn hst).then (fun x q hq => rules_bad (by omega) hq)).shut
    · rw [if_neg (by rw [decide_eq_false ht]; decide), if_neg ht]
      by_cases hk : (tk S i).kind = 1
      · rw [if_pos hk]
        exact ⟨_, rfl, rfl, end_at h hk⟩
      · rw [if_neg hk, if_neg (fun g => ht g.2)]
        unfold ruleG demandG
        rw [if_neg ht]
        exact ⟨_, rfl, (by decide : (61 : Int) ≠ 0), end_no h hk⟩
theorem Sim.shut {α β : Type} {d : Nat} {x : α × Rd} {g : Got α} {f : α → Nat → Got β} {o : Option (β × Rd)} (h : Sim S d x g) (hok : ∀ j, At S x.2 j d → Shut S o (f x.1 j)) (hbad : ∀ e p, Bad S x.2 e p → BadO S e p o) : Shut S o (g.andThen f) := by
  rcases g with ⟨v, j⟩ | ⟨e, p⟩ | _
  · obtain ⟨h1, h2⟩ := h; subst h1; exact hok j h2
  · exact (hbad e p h).shut
  · exact h.elim
theorem Shut.map {α β : Type} {o : Option (α × Rd)} {g : Got α} (h : Shut S o g) (f : α → β) : Shut S (o.bind fun x => some (f x.1, x.2)) (g.andThen fun x j => .ok (f x) j) := by
  obtain ⟨⟨x, r⟩, rfl, hs⟩ := h
  rcases g with ⟨v, j⟩ | ⟨e, p⟩ | _
  · exact ⟨_, rfl, congrArg f hs.1, hs.2⟩
  · exact ⟨_, rfl, hs⟩
  · exact hs.elim
/-- A policy's head, step by step. -/
abbrev q1 (S : Src) (r : Rd) : Rd := r.wantR S 2 bArch
abbrev q2 (S : Src) (r : Rd) : Rd := (q1 S r).kindR S 2
abbrev q3 (S : Src) (r : Rd) : Rd := (q2 S r).wantR S 4 bSemi
abbrev q4 (S : Src) (r : Rd) : Rd := (q3 S r).wantR S 2 bForeign
abbrev q5 (S : Src) (r : Rd) : Rd := verdR S (q4 S r)
abbrev q6 (S : Src) (r : Rd) : Rd := (q5 S r).wantR S 4 bSemi
abbrev q7 (S : Src) (r : Rd) : Rd := (q6 S r).wantR S 2 bDefault
abbrev q8 (S : Src) (r : Rd) : Rd := verdR S (q7 S r)
abbrev q9 (S : Src) (r : Rd) : Rd := (q8 S r).wantR S 4 bSemi
/-- A policy. -/
def parseS (S : Src) (n : Nat) (r : Rd) : Option (Po × Rd) :=
  (rulesS S n n [] (q9 S r)).bind fun x => some (⟨((q1 S r).kindT S 2).text, verdT S (q4 S r), verdT S (q7 S r), x.1⟩, x.2)
theorem parse_bad {n : Nat} {r : Rd} {e : Int} {p : Nat} (hn : 0 < n) (h : Bad S (q9 S r) e p) : BadO S e p (parseS S n r) :=
  (rules_bad hn h).then fun x q hq => ⟨_, rfl, hq⟩
theorem parse_sim (hS : Lexd S) {n : Nat} (hn : S.toks.length < n) {r : Rd} {i : Nat} (h : At S r i 0) : Shut S (parseS S n r) (policyG S n i) := by
  have b9 : ∀ {e p}, Bad S (q8 S r) e p → BadO S e p (parseS S n r) := fun h => parse_bad (by omega) (h.want 4 bSemi)
  have b8 : ∀ {e p}, Bad S (q7 S r) e p → BadO S e p (parseS S n r) := fun h => b9 (verd_bad h)
  have b7 : ∀ {e p}, Bad S (q6 S r) e p → BadO S e p (parseS S n r) := fun h => b8 (h.want 2 bDefault)
  have b6 : ∀ {e p}, Bad S (q5 S r) e p → BadO S e p (parseS S n r) := fun h => b7 (h.want 4 bSemi)
  have b5 : ∀ {e p}, Bad S (q4 S r) e p → BadO S e p (parseS S n r) := fun h => b6 (verd_bad h)
  have b4 : ∀ {e p}, Bad S (q3 S r) e p → BadO S e p (parseS S n r) := fun h => b5 (h.want 2 bForeign)
  have b3 : ∀ {e p}, Bad S (q2 S r) e p → BadO S e p (parseS S n r) := fun h => b4 (h.want 4 bSemi)
  have b2 : ∀ {e p}, Bad S (q1 S r) e p → BadO S e p (parseS S n r) := fun h => b3 (h.kind 2).1
  unfold policyG
  refine Sim.shut (h.want hS (show kindOf bArch = 2 by decide) (by decide)) (fun a ha => ?_) (fun e p hb => b2 hb)
  refine Sim.shut (name_sim ha hS) (fun b hb => ?_) (fun e p hb => b3 hb)
  refine Sim.shut (hb.want hS (show kindOf bSemi = 4 by decide) (by decide)) (fun c hc => ?_) (fun e p hb => b4 hb)
  refine Sim.shut (hc.want hS (show kindOf bForeign = 2 by decide) (by decide)) (fun d hd => ?_) (fun e p hb => b5 hb)
  refine Sim.shut (verd_sim hd hS) (fun e he => ?_) (fun e p hb => b6 hb)
  refine Sim.shut (he.want hS (show kindOf bSemi = 4 by decide) (by decide)) (fun g hg => ?_) (fun e p hb => b7 hb)
  refine Sim.shut (hg.want hS (show kindOf bDefault = 2 by decide) (by decide)) (fun j hj => ?_) (fun e p hb => b8 hb)
  refine Sim.shut (verd_sim hj hS) (fun k hk => ?_) (fun e p hb => b9 hb)
  refine Sim.shut (hk.want hS (show kindOf bSemi = 4 by decide) (by decide)) (fun l hl => ?_) (fun e p hb => parse_bad (by omega) hb)
  exact (rules_sim hS hn n [] _ l hl (by omega)).map (fun x => Po.mk _ _ _ x)
end
end Go.Proofs.YtgeapkjegemkeaaGreatDoor
namespace Go.Proofs.YtgeapkjegemkeaaGreatDoor
open Go Go.RowKit
set_option linter.unusedSimpArgs false
set_option linter.unusedVariables false

end Go.Proofs.YtgeapkjegemkeaaGreatDoor
namespace Go.Proofs.YtgeapkjegemkeaaGreatDoor
open Go Go.RowKit
set_option linter.unusedSimpArgs false
set_option linter.unusedVariables false

theorem RdAt.keep6 {w1 wd : World} {b : Nat} {A : Option Addr} {cap : Nat} {S : Src} {r : Rd} (h : RdAt w1 b A cap S r) (hs : w1.heap.size ≤ wd.heap.size) (hk : ∀ c, c ≤ b → wd.heap[c]? = w1.heap[c]?) : RdAt wd b A cap S r := by
  refine ⟨World.rowIs.of_block h.row (hk b (Nat.le_refl _)), fun hn => ?_, h.low, h.size⟩
  obtain ⟨tb, o, rfl, hl, hc⟩ := h.toks hn
  obtain ⟨tb', o', e, hl'⟩ := h.low hn
  injection e with e; injection e with e1 _ _; subst e1
  have hkb := hk tb (by omega)
  have cell : ∀ j u, w1.cell? ⟨tb, j, none⟩ = some u → wd.cell? ⟨tb, j, none⟩ = some u := fun j u hu => (World.cell?_of_block (a := ⟨tb, j, none⟩) hkb).trans hu
  refine ⟨tb, o, rfl, by omega, fun i hi => ?_⟩
  obtain ⟨c0, c1, c2, c3⟩ := hc i hi
  exact ⟨cell _ _ c0, cell _ _ c1, cell _ _ c2, cell _ _ c3⟩
/-- A rule whose calls are being read. -/
structure CallsD (w W : World) (b : Nat) (A : Option Addr) (cap : Nat) (S : Src) (r : Rd) (l : List (ByteArray × Nat)) (v : Value) : Prop where
  rd : RdAt W b A cap S r
  gr : w.grownBy W (some b)
  bw : b < w.heap.size
  box : W.heap[w.heap.size + 1]? = some (ruO v 1 (.slice none 0 0) 0 0 0 0 0 0)
  res : W.heap[w.heap.size]? = some (ruO (.slice none 0 0) 0 (.slice none 0 0) 0 0 0 0 0 0)
  own : W.ownsRow (w.heap.size + 2) 92 2 v l.length (callsC l)
section
variable {w W W1 wd : World} {b : Nat} {A : Option Addr} {cap : Nat} {S : Src} {r r1 : Rd} {l : List (ByteArray × Nat)} {v v' : Value} {x : ByteArray × Nat} {O : Obj}
theorem CallsD.size (h : CallsD w W b A cap S r l v) : w.heap.size + 2 ≤ W.heap.size := (Array.getElem?_eq_some_iff.1 h.box).1
theorem CallsD.call (h : CallsD w W b A cap S r l v) (hp : RdAt W1 b A cap S r1) (hg : W.grownBy W1 (some b)) : CallsD w W1 b A cap S r1 l v := by
  have hbw := h.bw
  refine ⟨hp, grown_trans h.gr hg, hbw, kept_box h.box hg (by omega), kept_box h.res hg (by omega), h.own.kept (row := some b) hg ?_⟩
  rcases hv : v.ownBlock with _ | c
  · exact .inl rfl
  · exact .inr (fun e => by injection e with e; have := (h.own.lt c hv).1; omega)
theorem CallsD.turn (h : CallsD w W b A cap S r l v) (ho : wd.ownsRow (w.heap.size + 2) 92 2 v' (l.length + 1) (callsC l ++ callC x)) (hg : (W.alloc O).grownBy wd v.ownBlock) (hv : v'.ownBlock = v.ownBlock ∨ v'.ownBlock = some (W.alloc O).heap.size) :
    CallsD w (wd.setCell ⟨w.heap.size + 1, 0, none⟩ v') b A cap S r (l ++ [x]) v' ∧ wd.heap[w.heap.size + 1]? = some (ruO v 1 (.slice none 0 0) 0 0 0 0 0 0) := by
  have hsz : (W.alloc O).heap.size = W.heap.size + 1 := by simp
  have hvl : ∀ c, v.ownBlock = some c → w.heap.size + 2 ≤ c ∧ c < W.heap.size := fun c e => h.own.lt c e
  have hbw := h.bw
  have hs := h.size
  have size3 := hg.size
  have keep : ∀ c, c < w.heap.size + 2 → wd.heap[c]? = W.heap[c]? := fun c hc => (hg.block c (by omega) (fun e => by have := hvl c e.symm; omega)).trans (Below.heap_alloc W O c (by omega))
  have keep2 : ∀ c, c < W.heap.size → some c ≠ v.ownBlock → wd.heap[c]? = W.heap[c]? := fun c hc hne => (hg.block c (by omega) hne).trans (Below.heap_alloc W O c hc)
  have hbx : wd.heap[w.heap.size + 1]? = some (ruO v 1 (.slice none 0 0) 0 0 0 0 0 0) := (keep _ (by omega)).trans h.box
  refine ⟨⟨?_, ?_, hbw, heap_set1 hbx 0 _, kept_set ((keep _ (by omega)).trans h.res) (by omega) 0 _, ?_⟩, hbx⟩
  · exact (h.rd.keep6 (by omega) (fun c hc => keep c (by omega))).new (by omega) 0 _
  · refine grown_new ⟨hg.os.trans h.gr.os, hg.tape.trans h.gr.tape, hg.output.trans h.gr.output, by have := h.gr.size; omega, fun c hc hne => (keep c (by omega)).trans (h.gr.block c hc hne)⟩ (by omega) 0 _
  · rw [List.length_append, callsC_snoc]
    refine World.ownsRow.kept (row := some (w.heap.size + 1)) ho (grown_set (World.grownBy.refl wd _) 0 _) ?_
    rcases hv with hv | hv
    · rw [hv]
      rcases hq : v.ownBlock with _ | c
      · exact .inl rfl
      · exact .inr (fun e => by injection e with e; have := (hvl c hq).1; omega)
    · rw [hv]; exact .inr (fun e => by injection e with e; omega)
end
/-- A rule with its calls. -/
structure RuleD (w W : World) (b : Nat) (A : Option Addr) (cap : Nat) (S : Src) (r : Rd) (tb capc : Nat) (cs : List (ByteArray × Nat)) (x : Ex) (Ax : Option Addr) (cx : Nat) (k n : Int) : Prop where
  rd : RdAt W b A cap S r
  gr : w.grownBy W (some b)
  bw : b < w.heap.size
  box : W.heap[w.heap.size + 1]? = some (ruO (.slice (some ⟨tb, 0, none⟩) cs.length capc) x.op (.slice Ax x.args.length cx) x.field (x.mask : Int) x.rel (x.value : Int) k n)
  res : W.heap[w.heap.size]? = some (ruO (.slice none 0 0) 0 (.slice none 0 0) 0 0 0 0 0 0)
  lo : w.heap.size + 2 ≤ tb
  lt : tb < W.heap.size
  calls : ∀ j u, (callsC cs)[j]? = some u → W.cell? ⟨tb, j, none⟩ = some u
  ex : ExIn W (fun k => w.heap.size + 2 ≤ k) x Ax cx
theorem CallsD.done {w W : World} {b : Nat} {A : Option Addr} {cap : Nat} {S : Src} {r : Rd} {l : List (ByteArray × Nat)} {v : Value} (h : CallsD w W b A cap S r l v) (hp : 0 < l.length) : ∃ tb capc, v = .slice (some ⟨tb, 0, none⟩) l.length capc ∧ RuleD w W b A cap S r tb capc l (.plain 1) none 0 0 0 := by
  have hb := h.box
  rcases h.own.2 with ⟨_, h0⟩ | ⟨tb, cap', cur, hv, hlo, hh, _, _, hs, ht⟩
  · omega
  · subst hv
    refine ⟨tb, cap', rfl, h.rd, h.gr, h.bw, hb, h.res, hlo, (Array.getElem?_eq_some_iff.1 hh).1, fun j u hj => ?_, .inl ⟨rfl, rfl, rfl⟩⟩
    rw [World.ownsRow.cellAt h.own j (by rw [← h.own.1]; exact (List.getElem?_eq_some_iff.1 hj).1)]
    exact hj
namespace RuleD
variable {w W W' : World} {b : Nat} {A : Option Addr} {cap : Nat} {S : Src} {r r' : Rd} {tb capc : Nat} {cs : List (ByteArray × Nat)} {x : Ex} {Ax : Option Addr} {cx : Nat} {k n : Int}
theorem size (h : RuleD w W b A cap S r tb capc cs x Ax cx k n) : w.heap.size + 2 ≤ W.heap.size := (Array.getElem?_eq_some_iff.1 h.box).1
theorem call (h : RuleD w W b A cap S r tb capc cs x Ax cx k n) (hp : RdAt W' b A cap S r') (hg : W.grownBy W' (some b)) : RuleD w W' b A cap S r' tb capc cs x Ax cx k n := by
  have := h.bw; have := h.lo; have := h.lt; have := hg.size
  exact ⟨hp, grown_trans h.gr hg, h.bw, kept_box h.box hg (by omega), kept_box h.res hg (by omega), h.lo, by omega, fun j u hj => (World.cell?_of_block (a := ⟨tb, j, none⟩) (hg.block tb h.lt (fun e => by injection e with e; omega))).trans (h.calls j u hj), h.ex.keep hg.size (fun _ hk => hk) (fun c hc hl => hg.block c hl (fun e => by injection e with e; omega))⟩
theorem setEx {x' : Ex} {A' : Option Addr} {c' : Nat} (h : RuleD w W b A cap S r tb capc cs x Ax cx k n) (hx : ExIn W (fun k => w.heap.size + 2 ≤ k) x' A' c') :
    RuleD w ((((((W.setCell ⟨w.heap.size + 1, 1, none⟩ (.int .i64 x'.op)).setCell ⟨w.heap.size + 1, 2, none⟩ (.slice A' x'.args.length c')).setCell ⟨w.heap.size + 1, 3, none⟩ (.int .i64 x'.field)).setCell ⟨w.heap.size + 1, 4, none⟩ (.int .u64 (x'.mask : Int))).setCell ⟨w.heap.size + 1, 5, none⟩ (.int .i64 x'.rel)).setCell ⟨w.heap.size + 1, 6, none⟩ (.int .u64 (x'.value : Int))) b A cap S r tb capc cs x' A' c' k n := by
  have := h.bw; have := h.lo; have := h.lt
  refine ⟨(((((h.rd.new (by omega) 1 _).new (by omega) 2 _).new (by omega) 3 _).new (by omega) 4 _).new (by omega) 5 _).new (by omega) 6 _,
    grown_new (grown_new (grown_new (grown_new (grown_new (grown_new h.gr (by omega) 1 _) (by omega) 2 _) (by omega) 3 _) (by omega) 4 _) (by omega) 5 _) (by omega) 6 _, h.bw,
    heap_set1 (heap_set1 (heap_set1 (heap_set1 (heap_set1 (heap_set1 h.box 1 _) 2 _) 3 _) 4 _) 5 _) 6 _,
    kept_set (kept_set (kept_set (kept_set (kept_set (kept_set h.res (by omega) 1 _) (by omega) 2 _) (by omega) 3 _) (by omega) 4 _) (by omega) 5 _) (by omega) 6 _, h.lo, by simpa [World.setCell] using h.lt, fun j u hj => ?_, ?_⟩
  · have ne : ∀ c, (⟨w.heap.size + 1, c, none⟩ : Addr) ≠ ⟨tb, j, none⟩ := fun c e => by injection e with e _; omega
    exact (World.cell?_setCell_other (h := ne 6) ..).trans ((World.cell?_setCell_other (h := ne 5) ..).trans ((World.cell?_setCell_other (h := ne 4) ..).trans ((World.cell?_setCell_other (h := ne 3) ..).trans ((World.cell?_setCell_other (h := ne 2) ..).trans ((World.cell?_setCell_other (h := ne 1) ..).trans (h.calls j u hj))))))
  · exact ex_set (ex_set (ex_set (ex_set (ex_set (ex_set hx (fun k hk => by omega) 1 _) (fun k hk => by omega) 2 _) (fun k hk => by omega) 3 _) (fun k hk => by omega) 4 _) (fun k hk => by omega) 5 _) (fun k hk => by omega) 6 _
theorem setVerd {k' n' : Int} (h : RuleD w W b A cap S r tb capc cs x Ax cx k n) :
    RuleD w ((W.setCell ⟨w.heap.size + 1, 7, none⟩ (.int .i64 k')).setCell ⟨w.heap.size + 1, 8, none⟩ (.int .u64 n')) b A cap S r tb capc cs x Ax cx k' n' := by
  have := h.bw; have := h.lo; have := h.lt
  refine ⟨(h.rd.new (by omega) 7 _).new (by omega) 8 _, grown_new (grown_new h.gr (by omega) 7 _) (by omega) 8 _, h.bw, heap_set1 (heap_set1 h.box 7 _) 8 _, kept_set (kept_set h.res (by omega) 7 _) (by omega) 8 _, h.lo, by simpa [World.setCell] using h.lt, fun j u hj => ?_, ?_⟩
  · have ne : ∀ c, (⟨w.heap.size + 1, c, none⟩ : Addr) ≠ ⟨tb, j, none⟩ := fun c e => by injection e with e _; omega
    exact (World.cell?_setCell_other (h := ne 8) ..).trans ((World.cell?_setCell_other (h := ne 7) ..).trans (h.calls j u hj))
  · exact ex_set (ex_set h.ex (fun k hk => by omega) 7 _) (fun k hk => by omega) 8 _
theorem done {v7 : Nat} (h : RuleD w W b A cap S r tb capc cs x Ax cx k (v7 : Int)) :
    RuP w.heap.size ⟨cs, x, (k, v7)⟩ (ruV ⟨cs, x, (k, v7)⟩ tb capc Ax cx) (((((((((W.setCell ⟨w.heap.size, 0, none⟩ (.slice (some ⟨tb, 0, none⟩) cs.length capc)).setCell ⟨w.heap.size, 1, none⟩ (.int .i64 x.op)).setCell ⟨w.heap.size, 2, none⟩ (.slice Ax x.args.length cx)).setCell ⟨w.heap.size, 3, none⟩ (.int .i64 x.field)).setCell ⟨w.heap.size, 4, none⟩ (.int .u64 (x.mask : Int))).setCell ⟨w.heap.size, 5, none⟩ (.int .i64 x.rel)).setCell ⟨w.heap.size, 6, none⟩ (.int .u64 (x.value : Int))).setCell ⟨w.heap.size, 7, none⟩ (.int .i64 k)).setCell ⟨w.heap.size, 8, none⟩ (.int .u64 (v7 : Int))) ∧
    RdAt (((((((((W.setCell ⟨w.heap.size, 0, none⟩ (.slice (some ⟨tb, 0, none⟩) cs.length capc)).setCell ⟨w.heap.size, 1, none⟩ (.int .i64 x.op)).setCell ⟨w.heap.size, 2, none⟩ (.slice Ax x.args.length cx)).setCell ⟨w.heap.size, 3, none⟩ (.int .i64 x.field)).setCell ⟨w.heap.size, 4, none⟩ (.int .u64 (x.mask : Int))).setCell ⟨w.heap.size, 5, none⟩ (.int .i64 x.rel)).setCell ⟨w.heap.size, 6, none⟩ (.int .u64 (x.value : Int))).setCell ⟨w.heap.size, 7, none⟩ (.int .i64 k)).setCell ⟨w.heap.size, 8, none⟩ (.int .u64 (v7 : Int))) b A cap S r ∧
    w.grownBy (((((((((W.setCell ⟨w.heap.size, 0, none⟩ (.slice (some ⟨tb, 0, none⟩) cs.length capc)).setCell ⟨w.heap.size, 1, none⟩ (.int .i64 x.op)).setCell ⟨w.heap.size, 2, none⟩ (.slice Ax x.args.length cx)).setCell ⟨w.heap.size, 3, none⟩ (.int .i64 x.field)).setCell ⟨w.heap.size, 4, none⟩ (.int .u64 (x.mask : Int))).setCell ⟨w.heap.size, 5, none⟩ (.int .i64 x.rel)).setCell ⟨w.heap.size, 6, none⟩ (.int .u64 (x.value : Int))).setCell ⟨w.heap.size, 7, none⟩ (.int .i64 k)).setCell ⟨w.heap.size, 8, none⟩ (.int .u64 (v7 : Int))) (some b) := by
  have := h.bw; have := h.lo; have := h.lt; have := h.size
  have hr : RuIn W (fun k => w.heap.size + 1 ≤ k) ⟨cs, x, (k, v7)⟩ tb Ax cx := ⟨⟨by omega, h.lt, h.calls⟩, h.ex.keep (Nat.le_refl _) (fun k hk => by omega) (fun _ _ _ => rfl)⟩
  have rset : ∀ {V : World} (j : Nat) (v : Value), RuIn V (fun k => w.heap.size + 1 ≤ k) ⟨cs, x, (k, v7)⟩ tb Ax cx → RuIn (V.setCell ⟨w.heap.size, j, none⟩ v) (fun k => w.heap.size + 1 ≤ k) ⟨cs, x, (k, v7)⟩ tb Ax cx := fun {V} j v hV =>
    hV.keep (by simp [World.setCell]) (fun _ hk => hk) (fun c hc _ => Below.heap_setCell V ⟨w.heap.size, j, none⟩ v c (show c ≠ w.heap.size by omega))
  refine ⟨⟨tb, capc, Ax, cx, rfl, (rset 8 _ (rset 7 _ (rset 6 _ (rset 5 _ (rset 4 _ (rset 3 _ (rset 2 _ (rset 1 _ (rset 0 _ hr))))))))).keep (Nat.le_refl _) (fun k hk => by omega) (fun _ _ _ => rfl)⟩, ?_, ?_⟩
  · exact ((((((((h.rd.new (by omega) 0 _).new (by omega) 1 _).new (by omega) 2 _).new (by omega) 3 _).new (by omega) 4 _).new (by omega) 5 _).new (by omega) 6 _).new (by omega) 7 _).new (by omega) 8 _
  · exact grown_new (grown_new (grown_new (gset6 h.gr (Nat.le_refl _) _ _ _ _ _ _) (Nat.le_refl _) 6 _) (Nat.le_refl _) 7 _) (Nat.le_refl _) 8 _
end RuleD
end Go.Proofs.YtgeapkjegemkeaaGreatDoor
namespace Go.Proofs.YtgeapkjegemkeaaGreatDoor
open Go Go.RowKit
set_option linter.unusedSimpArgs false
set_option linter.unusedVariables false

/-- A policy under way: its box E, the reader b ahead of it, the result's box. -/
structure PoD (w W : World) (b : Nat) (A : Option Addr) (cap : Nat) (S : Src) (r : Rd) (E : Nat) (a : ByteArray) (fk fn dk dn : Int) (l : List Ru) (v : Value) (xs : List Value) : Prop where
  rd : RdAt W b A cap S r
  bel : Below w.heap.size w W
  wb : w.heap.size < b
  bE : b < E
  box : W.heap[E]? = some (poO a fk fn dk dn v)
  res : W.heap[w.heap.size]? = some (poO ⟨#[]⟩ 0 0 0 0 (.slice none 0 0))
  own : W.ownsRow (E + 1) 88 9 v l.length xs
  chunks : ChunksR W (fun k => E + 1 ≤ k ∧ some k ≠ v.ownBlock) l xs
section
variable {w W W1 wd : World} {b : Nat} {A : Option Addr} {cap : Nat} {S : Src} {r r1 : Rd} {E : Nat} {a : ByteArray} {fk fn dk dn : Int} {l : List Ru} {v v' : Value} {xs : List Value} {x : Ru} {O : Obj} {tb capc : Nat} {Ax : Option Addr} {cx : Nat}
theorem PoD.size (h : PoD w W b A cap S r E a fk fn dk dn l v xs) : E < W.heap.size := (Array.getElem?_eq_some_iff.1 h.box).1
theorem PoD.call (h : PoD w W b A cap S r E a fk fn dk dn l v xs) (hp : RdAt W1 b A cap S r1) (hg : W.grownBy W1 (some b)) : PoD w W1 b A cap S r1 E a fk fn dk dn l v xs := by
  have h1 := h.wb; have h2 := h.bE; have h3 := h.size
  have h4 := h.bel.size
  refine ⟨hp, below_grow h.bel hg (by omega) (by omega), h1, h2, kept_box h.box hg (by omega), kept_box h.res hg (by omega), h.own.kept (row := some b) hg ?_, h.chunks.keep hg.size (fun _ hk => hk) (fun k hk _ => hg.block k (by assumption) (fun e => by injection e with e; have := hk.1; omega))⟩
  rcases hv : v.ownBlock with _ | c
  · exact .inl rfl
  · exact .inr (fun e => by injection e with e; have := (h.own.lt c hv).1; omega)
theorem PoD.alloc (h : PoD w W b A cap S r E a fk fn dk dn l v xs) (O : Obj) : PoD w (W.alloc O) b A cap S r E a fk fn dk dn l v xs :=
  h.call (h.rd.below (lbox W O)) (grown_of_below (lbox W O) (some b))
/-- Nothing but a cell of the policy is turned. -/
theorem PoD.setAny (h : PoD w W b A cap S r E a fk fn dk dn l v xs) (i : Nat) (u : Value) : RdAt (W.setCell ⟨E, i, none⟩ u) b A cap S r ∧ Below w.heap.size w (W.setCell ⟨E, i, none⟩ u) ∧ (W.setCell ⟨E, i, none⟩ u).heap[w.heap.size]? = some (poO ⟨#[]⟩ 0 0 0 0 (.slice none 0 0)) ∧ (W.setCell ⟨E, i, none⟩ u).ownsRow (E + 1) 88 9 v l.length xs ∧ ChunksR (W.setCell ⟨E, i, none⟩ u) (fun k => E + 1 ≤ k ∧ some k ≠ v.ownBlock) l xs := by
  have h1 := h.wb; have h2 := h.bE
  refine ⟨h.rd.new h2 i u, h.bel.setCell (p := ⟨E, i, none⟩) (show w.heap.size ≤ E by omega) u, kept_set h.res (by omega) i u, h.own.kept (row := some E) (grown_set (World.grownBy.refl W _) i u) ?_, h.chunks.keep (by simp [World.setCell]) (fun _ hk => hk) (fun k hk _ => Below.heap_setCell W ⟨E, i, none⟩ u k (show k ≠ E by have := hk.1; omega))⟩
  rcases hv : v.ownBlock with _ | c
  · exact .inl rfl
  · exact .inr (fun e => by injection e with e; have := (h.own.lt c hv).1; omega)
theorem PoD.setArch (h : PoD w W b A cap S r E a fk fn dk dn l v xs) (a' : ByteArray) : PoD w (W.setCell ⟨E, 0, none⟩ (.string a')) b A cap S r E a' fk fn dk dn l v xs :=
  have k := h.setAny 0 (.string a')
  ⟨k.1, k.2.1, h.wb, h.bE, heap_set1 h.box 0 _, k.2.2.1, k.2.2.2.1, k.2.2.2.2⟩
/-- One rule more. -/
theorem PoD.turn (h : PoD w W b A cap S r E a fk fn dk dn l v xs) (hx : RuIn W (fun k => E + 1 ≤ k ∧ some k ≠ v.ownBlock) x tb Ax cx)
    (ho : wd.ownsRow (E + 1) 88 9 v' (l.length + 1) (xs ++ ruC x tb capc Ax cx)) (hg : (W.alloc O).grownBy wd v.ownBlock) (hv : v'.ownBlock = v.ownBlock ∨ v'.ownBlock = some (W.alloc O).heap.size) :
    PoD w (wd.setCell ⟨E, 5, none⟩ v') b A cap S r E a fk fn dk dn (l ++ [x]) v' (xs ++ ruC x tb capc Ax cx) ∧ wd.heap[E]? = some (poO a fk fn dk dn v) := by
  have hsz : (W.alloc O).heap.size = W.heap.size + 1 := by simp
  have hvl : ∀ c, v.ownBlock = some c → E + 1 ≤ c ∧ c < W.heap.size := fun c e => h.own.lt c e
  have h1 := h.wb; have h2 := h.bE; have h3 := h.size
  have size3 := hg.size
  have keep : ∀ c, c < E + 1 → wd.heap[c]? = W.heap[c]? := fun c hc => (hg.block c (by omega) (fun e => by have := hvl c e.symm; omega)).trans (Below.heap_alloc W O c (by omega))
  have keep2 : ∀ c, c < W.heap.size → some c ≠ v.ownBlock → wd.heap[c]? = W.heap[c]? := fun c hc hne => (hg.block c (by omega) hne).trans (Below.heap_alloc W O c hc)
  have hbx : wd.heap[E]? = some (poO a fk fn dk dn v) := (keep _ (by omega)).trans h.box
  have hG : ∀ k, (E + 1 ≤ k ∧ some k ≠ v.ownBlock) ∧ k < W.heap.size → E + 1 ≤ k ∧ some k ≠ v'.ownBlock := fun k hk => ⟨hk.1.1, fun e => by
    rcases hv with hv | hv
    · exact hk.1.2 (e.trans hv)
    · rw [hv, hsz] at e; injection e with e; have := hk.2; omega⟩
  have hK : ∀ k, ((E + 1 ≤ k ∧ some k ≠ v.ownBlock) ∧ k < W.heap.size) → k < W.heap.size → (wd.setCell ⟨E, 5, none⟩ v').heap[k]? = W.heap[k]? := fun k hk hl =>
    (Below.heap_setCell wd ⟨E, 5, none⟩ v' k (show k ≠ E by have := hk.1.1; omega)).trans (keep2 k hl hk.1.2)
  have hs5 : (wd.setCell ⟨E, 5, none⟩ v').heap.size = wd.heap.size := by simp [World.setCell]
  have hbel : Below w.heap.size w wd := ⟨hg.os.trans h.bel.os, hg.tape.trans h.bel.tape, hg.output.trans h.bel.output, by have := h.bel.size; omega, fun c hc => (keep c (by omega)).trans (h.bel.block c hc)⟩
  refine ⟨⟨(h.rd.keep6 (by omega) (fun c hc => keep c (by omega))).new h2 5 _, hbel.setCell (p := ⟨E, 5, none⟩) (show w.heap.size ≤ E by omega) _, h1, h2, heap_set1 hbx 5 _, kept_set ((keep _ (by omega)).trans h.res) (by omega) 5 _, ?_, ?_⟩, hbx⟩
  · rw [List.length_append]
    refine World.ownsRow.kept (row := some E) ho (grown_set (World.grownBy.refl wd _) 5 _) ?_
    rcases hv with hv | hv
    · rw [hv]
      rcases hq : v.ownBlock with _ | c
      · exact .inl rfl
      · exact .inr (fun e => by injection e with e; have := (hvl c hq).1; omega)
    · rw [hv]; exact .inr (fun e => by injection e with e; omega)
  · exact ((chunksR_lt h.chunks).keep (by omega) hG hK).snoc ((ru_lt hx).keep (by omega) hG hK)
/-- Its rules. -/
theorem PoD.rules (h : PoD w W b A cap S r E a fk fn dk dn l v xs) : RulesP (E + 1) l v W := by
  rcases h.own.2 with ⟨hv, h0⟩ | ⟨tb, cap, cur, hv, hlo, hh, _, _, hs, ht⟩
  · exact .inl ⟨List.length_eq_zero_iff.1 h0, hv⟩
  · subst hv
    refine .inr ⟨tb, cap, rfl, hlo, (Array.getElem?_eq_some_iff.1 hh).1, ?_⟩
    refine (h.chunks.keep (Nat.le_refl _) (fun k hk => hk.1) (fun _ _ _ => rfl)).row (fun j u hj => ?_)
    rw [Nat.zero_add, World.ownsRow.cellAt h.own j (by rw [← h.own.1]; exact (List.getElem?_eq_some_iff.1 hj).1)]
    exact hj
/-- At the start. -/
theorem PoD.first (hp : RdAt W b A cap S r) (hb : Below w.heap.size w W) (hr : W.heap[w.heap.size]? = some (poO ⟨#[]⟩ 0 0 0 0 (.slice none 0 0))) (hwb : w.heap.size < b) :
    PoD w (W.alloc (poO ⟨#[]⟩ 0 0 0 0 (.slice none 0 0))) b A cap S r W.heap.size ⟨#[]⟩ 0 0 0 0 [] (.slice none 0 0) [] :=
  ⟨hp.below (lbox W _), hb.trans ((lbox W _).mono hb.size), hwb, hp.row.lt, World.alloc_heap_new W _, kept_alloc hr _, World.ownsRow_nil _ _ _ _, rfl⟩
end
end Go.Proofs.YtgeapkjegemkeaaGreatDoor
namespace Go.Proofs.YtgeapkjegemkeaaGreatDoor
open Go Go.RowKit
set_option linter.unusedSimpArgs false
set_option linter.unusedVariables false

theorem ref_SameExpr {x : Ex} (hsm : SmEx x) {A : Option Addr} {cap : Nat} {A' : Option Addr} {cap' : Nat} {F F' : Nat → Prop} {W : World} (h : ExIn W F x A cap) (h' : ExIn W F' x A' cap') :
    Calls Tryz.prog 20 #[exV x A cap, exV x A' cap'] W fun e w' => e = .returned (.bool true) ∧ Below W.heap.size W w' :=
  ref_SameN _ x (Nat.lt_succ_self _) hsm A cap A' cap' F F' W h h'
def zeroRu : Ru := ⟨[], .zero, (0, 0)⟩
theorem rurow_at {w : World} {F : Nat → Prop} {tb : Nat} : ∀ {l : List Ru} {o : Nat} (k : Nat), k < l.length → RuRow w F l tb o → ∃ t c A cap, RuIn w F (l.getD k zeroRu) t A cap ∧ ∀ j u, (ruC (l.getD k zeroRu) t c A cap)[j]? = some u → w.cell? ⟨tb, o + k * 9 + j, none⟩ = some u
  | [], _, k, hk, _ => by simp at hk
  | e :: l, o, 0, _, h => by
    obtain ⟨t, c, A, cap, h1, h2⟩ := h.1
    exact ⟨t, c, A, cap, h1, by simpa using h2⟩
  | e :: l, o, k + 1, hk, h => by
    obtain ⟨t, c, A, cap, h1, h2⟩ := rurow_at (o := o + 9) k (by simpa using hk) h.2
    exact ⟨t, c, A, cap, h1, fun j u hj => by have := h2 j u hj; rw [show o + 9 + k * 9 + j = o + (k + 1) * 9 + j by omega] at this; exact this⟩
/-- Rules as a slice: each of them. -/
theorem rules_each {lo : Nat} {l : List Ru} {v : Value} {W : World} (h : RulesP lo l v W) : ∃ A c, v = .slice A l.length c ∧ ∀ k, k < l.length → ∃ tb, A = some ⟨tb, 0, none⟩ ∧ tb < W.heap.size ∧ ∃ t c A cap, RuIn W (fun k => lo ≤ k) (l.getD k zeroRu) t A cap ∧ ∀ j u, (ruC (l.getD k zeroRu) t c A cap)[j]? = some u → W.cell? ⟨tb, k * 9 + j, none⟩ = some u := by
  rcases h with ⟨rfl, rfl⟩ | ⟨tb, cap, rfl, h2, h3, h4⟩
  · exact ⟨none, 0, rfl, fun k hk => by simp at hk⟩
  · refine ⟨_, cap, rfl, fun k hk => ⟨tb, rfl, h3, ?_⟩⟩
    obtain ⟨t, c, A, cap, g1, g2⟩ := rurow_at k hk h4
    exact ⟨t, c, A, cap, g1, fun j u hj => by have := g2 j u hj; rw [Nat.zero_add] at this; exact this⟩
theorem callsC_at : ∀ (l : List (ByteArray × Nat)) (k : Nat), k < l.length → (callsC l)[k * 2]? = some (.string (l.getD k (⟨#[]⟩, 0)).1) ∧ (callsC l)[k * 2 + 1]? = some (.int .u64 ((l.getD k (⟨#[]⟩, 0)).2 : Int))
  | [], k, hk => by simp at hk
  | x :: l, 0, _ => ⟨rfl, rfl⟩
  | x :: l, k + 1, hk => by
    have := callsC_at l k (by simpa using hk)
    rw [show (k + 1) * 2 = k * 2 + 1 + 1 by omega, show k * 2 + 1 + 1 + 1 = k * 2 + 1 + 1 + 1 from rfl]
    exact this
abbrev poCell (p : Po) (R : Value) : Obj := .cells #[.string p.arch, .int .i64 p.foreign_.1, .int .u64 (p.foreign_.2 : Int), .int .i64 p.default_.1, .int .u64 (p.default_.2 : Int), R] 29
theorem rules_below {lo : Nat} {l : List Ru} {v : Value} {W W' : World} (h : RulesP lo l v W) (hb : Below W.heap.size W W') : RulesP lo l v W' := rules_keep h hb.size (Nat.le_refl _) (fun k _ hk => hb.block k hk)
theorem ru_below {w w' : World} {F : Nat → Prop} {r : Ru} {t : Nat} {A : Option Addr} {cap : Nat} (h : RuIn w F r t A cap) (hb : Below w.heap.size w w') : RuIn w' F r t A cap := h.keep hb.size (fun _ hk => hk) (fun k _ hk => hb.block k hk)
theorem eq_verd (a : Int) (b : Int) (w : World) : (Op.equalIn 10000 26 (.agg #[.int .i64 a, .int .u64 b]) (.agg #[.int .i64 a, .int .u64 b])).run Tryz.prog w = .ok true w := by
  rw [show (10000 : Nat) = 9999 + 1 from rfl, run_equalIn_agg w 9999 26 _ _ (by kernel_rfl) (by kernel_rfl)]
  simp only [Program.fieldsOf, Tryz.underlying26]
  go_simp
theorem neq_verd (a : Int) (b : Int) (w : World) : (binOp BinOp.neq 26 (.agg #[.int .i64 a, .int .u64 b]) (.agg #[.int .i64 a, .int .u64 b])).run Tryz.prog w = .ok (.bool false) w := by
  rw [run_neq_struct, eq_verd]; rfl
theorem eq_call (a : ByteArray) (b : Int) (w : World) : (Op.equalIn 10000 92 (.agg #[.string a, .int .u64 b]) (.agg #[.string a, .int .u64 b])).run Tryz.prog w = .ok true w := by
  rw [show (10000 : Nat) = 9999 + 1 from rfl, run_equalIn_agg w 9999 92 _ _ (by kernel_rfl) (by kernel_rfl)]
  simp only [Program.fieldsOf, Tryz.underlying92]
  go_simp
theorem neq_call (a : ByteArray) (b : Int) (w : World) : (binOp BinOp.neq 92 (.agg #[.string a, .int .u64 b]) (.agg #[.string a, .int .u64 b])).run Tryz.prog w = .ok (.bool false) w := by
  rw [run_neq_struct, eq_call]; rfl
set_option maxHeartbeats 8000000 in
set_option maxRecDepth 100000 in
theorem ref_Same (p : Po) (hsm : SmPo p) (lo lo' : Nat) (R R' : Value) (W : World) (h : RulesP lo p.rules R W) (h' : RulesP lo' p.rules R' W) :
    Calls Tryz.prog 19 #[poV p.arch p.foreign_.1 (p.foreign_.2 : Int) p.default_.1 (p.default_.2 : Int) R, poV p.arch p.foreign_.1 (p.foreign_.2 : Int) p.default_.1 (p.default_.2 : Int) R'] W fun e w' => e = .returned (.bool true) ∧ Below W.heap.size W w' := by
  obtain ⟨RA, rc, rfl, hE⟩ := rules_each h
  obtain ⟨RA', rc', rfl, hE'⟩ := rules_each h'
  have hneq : ∀ (a : Int) (b : Nat) (w : World), (binOp BinOp.neq 26 (.agg #[.int .i64 a, .int .u64 (b : Int)]) (.agg #[.int .i64 a, .int .u64 (b : Int)])).run Tryz.prog w = .ok (.bool false) w := fun a b w => neq_verd a b w
  have hb := (lbox W (poCell p (.slice RA p.rules.length rc))).trans ((lbox (W.alloc (poCell p (.slice RA p.rules.length rc))) (poCell p (.slice RA' p.rules.length rc'))).mono (by simp))
  have hB := Lib.hid hb
  have b0 : ((W.alloc (poCell p (.slice RA p.rules.length rc))).alloc (poCell p (.slice RA' p.rules.length rc'))).heap[W.heap.size]? = some (poCell p (.slice RA p.rules.length rc)) := (Below.heap_alloc _ _ _ (by simp)).trans (World.alloc_heap_new W _)
  have b1 := World.alloc_heap_new (W.alloc (poCell p (.slice RA p.rules.length rc))) (poCell p (.slice RA' p.rules.length rc'))
  rw [show (W.alloc (poCell p (.slice RA p.rules.length rc))).heap.size = W.heap.size + 1 by simp] at b1
  have hX := Lib.hid (And.intro b0 b1)
  have HE := Lib.hid (And.intro hE hE')
  have HSM := Lib.hid hsm
  have hlen := hsm.1
  clear hE hE' h h' hb b0 b1 hsm
  generalize hn : p.rules.length = n at hlen ⊢
  go_enter Tryz.func19, Tryz.ntmps19
  have HNN := Lib.hid hn
  clear hn
  go_wp2
  go_loopw [5] (fun i wr => ∃ k : Nat, k ≤ n ∧ i = .int .i64 (k : Int) ∧ Below (W.heap.size + 2) ((W.alloc (poCell p (.slice RA p.rules.length rc))).alloc (poCell p (.slice RA' p.rules.length rc'))) wr) (fun i _ => n - (intOf i).toNat)
  case atStart => exact ⟨0, by omega, rfl, by have := HNN.out; subst this; exact Below.refl _ _⟩
  case round =>
    obtain ⟨k, hk, rfl, hbw⟩ := hrel
    have s2 : ((W.alloc (poCell p (.slice RA p.rules.length rc))).alloc (poCell p (.slice RA' p.rules.length rc'))).heap.size = W.heap.size + 2 := by simp
    have f0 : wr.heap[W.heap.size]? = some (poCell p (.slice RA p.rules.length rc)) := (hbw.block W.heap.size (by omega)).trans hX.out.1
    have f1 : wr.heap[W.heap.size + 1]? = some (poCell p (.slice RA' p.rules.length rc')) := (hbw.block (W.heap.size + 1) (by omega)).trans hX.out.2
    have c0 : wr.cell? ⟨W.heap.size, 5, none⟩ = some (.slice RA n rc) := (cell6 f0 5 rfl).trans (by rw [← HNN.out]; rfl)
    have c1 : wr.cell? ⟨W.heap.size + 1, 5, none⟩ = some (.slice RA' n rc') := (cell6 f1 5 rfl).trans (by rw [← HNN.out]; rfl)
    have HBW := Lib.hid hbw
    by_cases hlt : k < n
    · have hlt' : (k : Int) < (n : Int) := by omega
      have hkx : k < p.rules.length := by rw [HNN.out]; exact hlt
      have hWb : Below W.heap.size W wr := hB.out.trans (hbw.mono (by omega))
      obtain ⟨tb, rfl, htl, t, c, A, cap, hr, hc⟩ := HE.out.1 k hkx
      obtain ⟨tb', rfl, htl', t', c', A', cap', hr', hc'⟩ := HE.out.2 k hkx
      have hrs : SmRu (p.rules.getD k zeroRu) := HSM.out.2 _ (by rw [List.getD_eq_getElem?_getD, List.getElem?_eq_getElem hkx]; exact List.getElem_mem hkx)
      generalize p.rules.getD k zeroRu = r at hr hc hr' hc' hrs
      have hz1 : tb < wr.heap.size := Nat.lt_of_lt_of_le htl hWb.size
      have hz2 : tb' < wr.heap.size := Nat.lt_of_lt_of_le htl' hWb.size
      have hz3 : W.heap.size + 1 < wr.heap.size := (Array.getElem?_eq_some_iff.1 f1).1
      have g1 : ∀ j u, (ruC r t c A cap)[j]? = some u → wr.cell? ⟨tb, k * 9 + j, none⟩ = some u := fun j u hj => (hWb.cell (p := ⟨tb, k * 9 + j, none⟩) htl).trans (hc j u hj)
      have g2 : ∀ j u, (ruC r t' c' A' cap')[j]? = some u → wr.cell? ⟨tb', k * 9 + j, none⟩ = some u := fun j u hj => (hWb.cell (p := ⟨tb', k * 9 + j, none⟩) htl').trans (hc' j u hj)
      have HR := Lib.hid (And.intro (ru_below hr hWb) (ru_below hr' hWb))
      have a0 : wr.cell? ⟨tb, k * 9, none⟩ = some (.slice (some ⟨t, 0, none⟩) r.calls.length c) := g1 0 _ rfl
      have a1 := g1 1 _ rfl
      have a2 := g1 2 _ rfl
      have a3 := g1 3 _ rfl
      have a4 := g1 4 _ rfl
      have a5 := g1 5 _ rfl
      have a6 := g1 6 _ rfl
      have a7 := g1 7 _ rfl
      have a8 := g1 8 _ rfl
      have d0 : wr.cell? ⟨tb', k * 9, none⟩ = some (.slice (some ⟨t', 0, none⟩) r.calls.length c') := g2 0 _ rfl
      have d1 := g2 1 _ rfl
      have d2 := g2 2 _ rfl
      have d3 := g2 3 _ rfl
      have d4 := g2 4 _ rfl
      have d5 := g2 5 _ rfl
      have d6 := g2 6 _ rfl
      have d7 := g2 7 _ rfl
      have d8 := g2 8 _ rfl
      have HRS := Lib.hid hrs
      have hm := hrs.2
      clear hr hc hr' hc' hkx hWb g1 g2 hrs f0 f1 hbw
      have HQ : Hid (∀ V : World, wr.heap.size ≤ V.heap.size → (∀ q, q < wr.heap.size → V.heap[q]? = wr.heap[q]?) → Calls Tryz.prog 20 #[exV r.when_ A cap, exV r.when_ A' cap'] V fun e w' => e = .returned (.bool true) ∧ Below V.heap.size V w') := Lib.hid fun V hs hV => ref_SameExpr HRS.out.1 ((HR.out.1.2).keep hs (fun _ h => h) (fun q _ hq => hV q hq)) ((HR.out.2.2).keep hs (fun _ h => h) (fun q _ hq => hV q hq))
      go_wp2_with (go_at_call 20; (refine (HQ.out _ (by simp; omega) (fun q hq => by first | exact (Below.heap_alloc _ _ q (by simp; omega)).trans (Below.heap_alloc _ _ q hq))).mono ?_); rintro e w5 ⟨rfl, hb5⟩; have q6 : w5.heap[wr.heap.size]? = some (ruCells r t c A cap) := (hb5.block wr.heap.size (by simp; omega)).trans (kept_alloc (World.alloc_heap_new wr _) _); have q7 : w5.heap[wr.heap.size + 1]? = some (ruCells r t' c' A' cap') := (hb5.block (wr.heap.size + 1) (by simp)).trans (by have := World.alloc_heap_new (wr.alloc (ruCells r t c A cap)) (ruCells r t' c' A' cap'); rw [show (wr.alloc (ruCells r t c A cap)).heap.size = wr.heap.size + 1 by simp] at this; exact this); have p0 := cell6 q6 0 rfl; have p7 := cell6 q6 7 rfl; have p8 := cell6 q6 8 rfl; have v0 := cell6 q7 0 rfl; have v7 := cell6 q7 7 rfl; have v8 := cell6 q7 8 rfl; have H5 := Lib.hid hb5; clear hb5 q6 q7)
      have hW5 : Below wr.heap.size wr w5 := ((lbox wr (ruCells r t c A cap)).trans ((lbox (wr.alloc (ruCells r t c A cap)) (ruCells r t' c' A' cap')).mono (by simp))).trans (H5.out.mono (by simp; omega))
      have e1 : ∀ j u, (callsC r.calls)[j]? = some u → w5.cell? ⟨t, j, none⟩ = some u := fun j u hj => (hW5.cell (p := ⟨t, j, none⟩) HR.out.1.1.2.1).trans (HR.out.1.1.2.2 j u hj)
      have e2 : ∀ j u, (callsC r.calls)[j]? = some u → w5.cell? ⟨t', j, none⟩ = some u := fun j u hj => (hW5.cell (p := ⟨t', j, none⟩) HR.out.2.1.2.1).trans (HR.out.2.1.2.2 j u hj)
      have HC := Lib.hid (And.intro e1 e2)
      have H6 := Lib.hid hW5
      have hneqc : ∀ (a : ByteArray) (b : Nat) (w : World), (binOp BinOp.neq 92 (.agg #[.string a, .int .u64 (b : Int)]) (.agg #[.string a, .int .u64 (b : Int)])).run Tryz.prog w = .ok (.bool false) w := fun a b w => neq_call a b w
      clear e1 e2 hW5 a0 a1 a2 a3 a4 a5 a6 a7 a8 d0 d1 d2 d3 d4 d5 d6 d7 d8 c0 c1 HQ H5 p7 p8 v7 v8 hneq
      have p0 : w5.cell? ⟨wr.heap.size, 0, none⟩ = some (.slice (some ⟨t, 0, none⟩) r.calls.length c) := p0
      have v0 : w5.cell? ⟨wr.heap.size + 1, 0, none⟩ = some (.slice (some ⟨t', 0, none⟩) r.calls.length c') := v0
      go_loopw [9] (fun i wx => ∃ q : Nat, q ≤ r.calls.length ∧ i = .int .i64 (q : Int) ∧ ∃ z, wx = w5.drewN z) (fun i _ => r.calls.length - (intOf i).toNat)
      case atStart => exact ⟨0, by omega, rfl, 0, rfl⟩
      case round =>
        obtain ⟨q, hq, rfl, z, rfl⟩ := hrel
        have p1 : (w5.drewN z).cell? ⟨wr.heap.size, 0, none⟩ = some (.slice (some ⟨t, 0, none⟩) r.calls.length c) := p0
        have v1 : (w5.drewN z).cell? ⟨wr.heap.size + 1, 0, none⟩ = some (.slice (some ⟨t', 0, none⟩) r.calls.length c') := v0
        by_cases hql : q < r.calls.length
        · have hql' : (q : Int) < (r.calls.length : Int) := by omega
          have hca := callsC_at r.calls q hql
          have m0 : w5.cell? ⟨t, q * 2, none⟩ = some (.string (r.calls.getD q (⟨#[]⟩, 0)).1) := HC.out.1 _ _ hca.1
          have m1 : w5.cell? ⟨t, q * 2 + 1, none⟩ = some (.int .u64 ((r.calls.getD q (⟨#[]⟩, 0)).2 : Int)) := HC.out.1 _ _ hca.2
          have n0 : w5.cell? ⟨t', q * 2, none⟩ = some (.string (r.calls.getD q (⟨#[]⟩, 0)).1) := HC.out.2 _ _ hca.1
          have n1 : w5.cell? ⟨t', q * 2 + 1, none⟩ = some (.int .u64 ((r.calls.getD q (⟨#[]⟩, 0)).2 : Int)) := HC.out.2 _ _ hca.2
          clear hca
          generalize r.calls.getD q (⟨#[]⟩, 0) = cc at m0 m1 n0 n1
          go_wp2
          go_quiet (fail)
          go_wp2
          exact ⟨⟨q + 1, by omega, by go_num, z + nq, by simp [World.drewN, Nat.add_assoc]⟩, by simp [intOf]; omega⟩
        · go_wp2
          exact ⟨⟨k + 1, by omega, by go_num, below_drawn (HBW.out.trans (H6.out.mono (by omega))) z⟩, by simp [intOf]; omega⟩
    · go_wp2
      go_ret
      exact ⟨rfl, hB.out.trans (HBW.out.mono (by omega))⟩
end Go.Proofs.YtgeapkjegemkeaaGreatDoor
namespace Go.Proofs.YtgeapkjegemkeaaGreatDoor
open Go Go.RowKit
set_option linter.unusedSimpArgs false
set_option linter.unusedVariables false

theorem lives_expr : exprF ⟨#[110, 111, 116, 32, 97, 114, 103, 49, 32, 38, 32, 55, 32, 62, 61, 32, 50]⟩ = .ok (.node 3 [.mk 6 [] 1 7 6 2]) 6 := by kernel_rfl
theorem ex_args6 {w : World} {F : Nat → Prop} {y : Ex} {o : Int} {A : Option Addr} {cap : Nat} (h : ExIn w F (.node o [y]) A cap) :
    ∃ tb, A = some ⟨tb, 0, none⟩ ∧ tb < w.heap.size ∧ F tb ∧ ∃ A' cap', ExIn w F y A' cap' ∧ ∀ j u, (exC y A' cap')[j]? = some u → w.cell? ⟨tb, j, none⟩ = some u := by
  rcases h with ⟨h1, _⟩ | ⟨h1, tb, h2, h3, h4, ⟨⟨A', cap', g1, g2⟩, _⟩⟩
  · cases h1
  · exact ⟨tb, h2, h4, h3, A', cap', g1, fun j u hj => by have := g2 j u hj; rw [Nat.zero_add] at this; exact this⟩
set_option maxRecDepth 100000 in
theorem lives_is6 (w : World) : Calls Tryz.prog 6 #[] w fun e w' => e = .returned (.bool true) ∧ Below w.heap.size w w' := by
  have hP := p_ParseExpr ⟨#[110, 111, 116, 32, 97, 114, 103, 49, 32, 38, 32, 55, 32, 62, 61, 32, 50]⟩ w
  rw [lives_expr] at hP
  have HP := Lib.hid hP
  clear hP
  go_enter Tryz.func6, Tryz.ntmps6
  go_wp2_with (go_at_call 10; (with_reducible refine HP.out.mono ?_); rintro e w1 ⟨v, rfl, ⟨A, cap, hv, hx⟩, hb⟩; obtain ⟨tb, rfl, htl, _, A1, cap1, hx1, hc1⟩ := ex_args6 hx; obtain rfl : v = .agg #[.int .i64 3, .slice (some ⟨tb, 0, none⟩) 1 cap, .int .i64 0, .int .u64 0, .int .i64 0, .int .u64 0] := hv; have a2 : w1.cell? ⟨tb, 2, none⟩ = some (.int .i64 1) := hc1 2 _ rfl; have a3 : w1.cell? ⟨tb, 3, none⟩ = some (.int .u64 7) := hc1 3 _ rfl; have a4 : w1.cell? ⟨tb, 4, none⟩ = some (.int .i64 6) := hc1 4 _ rfl; have a5 : w1.cell? ⟨tb, 5, none⟩ = some (.int .u64 2) := hc1 5 _ rfl; have HB := Lib.hid hb; clear hb hc1 hx1 hx)
  go_ret
  exact ⟨rfl, HB.out.trans ((lbox _ _).mono HB.out.size)⟩
end Go.Proofs.YtgeapkjegemkeaaGreatDoor
namespace Go.Proofs.YtgeapkjegemkeaaGreatDoor
open Go Go.RowKit
set_option linter.unusedSimpArgs false
set_option linter.unusedVariables false

/-- A policy, as the document reads it, and as the grammar does. -/
theorem parse_all (s : ByteArray) : ∃ lr re, rulesS (srcF s) ((srcF s).toks.length + 1) ((srcF s).toks.length + 1) [] (q9 (srcF s) ⟨0, 0, 0, 0⟩) = some (lr, re) ∧ match policyF s with
    | .ok p _ => p = ⟨((q1 (srcF s) ⟨0, 0, 0, 0⟩).kindT (srcF s) 2).text, verdT (srcF s) (q4 (srcF s) ⟨0, 0, 0, 0⟩), verdT (srcF s) (q7 (srcF s) ⟨0, 0, 0, 0⟩), lr⟩ ∧ (re.kindR (srcF s) 1).err = 0
    | .bad e p => e ≠ 0 ∧ (re.kindR (srcF s) 1).err = e ∧ (re.kindR (srcF s) 1).bad = p
    | .out => False := by
  have hS := lexd s
  have key : Shut (srcF s) (parseS (srcF s) ((srcF s).toks.length + 1) ⟨0, 0, 0, 0⟩) (policyF s) := by
    unfold policyF readG
    by_cases h0 : 0 < (srcF s).toks.length
    · rw [if_pos h0]
      exact parse_sim hS (Nat.lt_succ_self _) ((start_sim hS).1 h0)
    · rw [if_neg h0]
      have hb := (start_sim hS).2 h0
      have h3 := ((hb.want 2 bArch).kind 2).1.want 4 bSemi
      have h6 := (verd_bad (h3.want 2 bForeign)).want 4 bSemi
      have h9 := (verd_bad (h6.want 2 bDefault)).want 4 bSemi
      exact (parse_bad (Nat.succ_pos _) h9).shut
  obtain ⟨⟨p, re⟩, hx, hm⟩ := key
  unfold parseS at hx
  cases hr : rulesS (srcF s) ((srcF s).toks.length + 1) ((srcF s).toks.length + 1) [] (q9 (srcF s) ⟨0, 0, 0, 0⟩) with
  | none => rw [hr] at hx; cases hx
  | some y =>
    rw [hr] at hx
    injection hx with hx
    injection hx with e1 e2
    refine ⟨y.1, y.2, rfl, ?_⟩
    subst e2
    generalize policyF s = g at hm ⊢
    rcases g with ⟨v, j⟩ | ⟨e, q⟩ | _
    · exact ⟨hm.1.symm.trans e1.symm, hm.2⟩
    · exact hm
    · exact hm
/-- What Parse answers: a policy, an error, a place. -/
def zeroPo : Po := ⟨⟨#[]⟩, (0, 0), (0, 0), []⟩
def resPo : Got Po → Po × Int × Nat
  | .ok p _ => (p, 0, 0)
  | .bad e q => (zeroPo, e, q)
  | .out => (zeroPo, 0, 0)
def resEx : Got Ex → Ex × Int × Nat
  | .ok p _ => (p, 0, 0)
  | .bad e q => (.zero, e, q)
  | .out => (.zero, 0, 0)
theorem u_po {f : Nat} {args : Array Value} {w : World} {g : Got Po} (h : Calls Tryz.prog f args w (ParseP (PoP w.heap.size) (poV ⟨#[]⟩ 0 0 0 0 (.slice none 0 0)) w g)) :
    Calls Tryz.prog f args w (fun e w' => ∃ R, e = .returned (.tuple #[poV (resPo g).1.arch (resPo g).1.foreign_.1 ((resPo g).1.foreign_.2 : Int) (resPo g).1.default_.1 ((resPo g).1.default_.2 : Int) R, .int .i64 (resPo g).2.1, .int .i64 ((resPo g).2.2 : Int)]) ∧ RulesP w.heap.size (resPo g).1.rules R w' ∧ Below w.heap.size w w') := by
  refine h.mono fun e w' hp => ?_
  rcases g with ⟨v, j⟩ | ⟨er, q⟩ | _
  · obtain ⟨v', rfl, ⟨R, rfl, hR⟩, hb⟩ := hp
    exact ⟨R, rfl, hR, hb⟩
  · obtain ⟨rfl, hb⟩ := hp
    exact ⟨.slice none 0 0, rfl, .inl ⟨rfl, rfl⟩, hb⟩
  · exact hp.elim
theorem u_ex {f : Nat} {args : Array Value} {w : World} {g : Got Ex} (h : Calls Tryz.prog f args w (ParseP (ExP w.heap.size) (leafVal 0 0 0 0 0) w g)) :
    Calls Tryz.prog f args w (fun e w' => ∃ A c, e = .returned (.tuple #[exV (resEx g).1 A c, .int .i64 (resEx g).2.1, .int .i64 ((resEx g).2.2 : Int)]) ∧ ExIn w' (fun k => w.heap.size ≤ k) (resEx g).1 A c ∧ Below w.heap.size w w') := by
  refine h.mono fun e w' hp => ?_
  rcases g with ⟨v, j⟩ | ⟨er, q⟩ | _
  · obtain ⟨v', rfl, ⟨A, c, rfl, hR⟩, hb⟩ := hp
    exact ⟨A, c, rfl, hR, hb⟩
  · obtain ⟨rfl, hb⟩ := hp
    exact ⟨none, 0, rfl, .inl ⟨rfl, rfl, rfl⟩, hb⟩
  · exact hp.elim
theorem sm_resPo (s : ByteArray) : SmPo (resPo (policyF s)).1 := by
  have h : All SmPo (policyF s) := by
    unfold policyF readG
    exact all_ite (sm_policy (src_small s) _ _) (all_bad _ _)
  generalize policyF s = g at h
  rcases g with ⟨v, j⟩ | ⟨er, q⟩ | _
  · exact h v j rfl
  · exact ⟨Nat.zero_le _, fun r hr => by cases hr⟩
  · exact ⟨Nat.zero_le _, fun r hr => by cases hr⟩
theorem sm_resEx (s : ByteArray) : SmEx (resEx (exprF s)).1 := by
  have h : All SmEx (exprF s) := by
    unfold exprF readG
    by_cases h0 : 0 < (srcF s).toks.length
    · rw [if_pos h0]; exact sm_whole (src_small s) _ _ h0
    · rw [if_neg h0]; exact all_bad _ _
  generalize exprF s = g at h
  rcases g with ⟨v, j⟩ | ⟨er, q⟩ | _
  · exact h v j rfl
  · exact sm_leaf _ _ _ _ _
  · exact sm_leaf _ _ _ _ _
end Go.Proofs.YtgeapkjegemkeaaGreatDoor
