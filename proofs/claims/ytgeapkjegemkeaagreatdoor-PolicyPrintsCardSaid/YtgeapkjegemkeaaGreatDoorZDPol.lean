/-
  The document reads rules and policies: contracts. Conditions: those that each names.
-/
import Derived.Test.YtgeapkjegemkeaaGreatDoorZDEx
import Derived.Test.YtgeapkjegemkeaaGreatDoorMemory
import Derived.Test.YtgeapkjegemkeaaGreatDoorRowsOwn
import Derived.Test.YtgeapkjegemkeaaGreatDoorRegion
import Derived.Test.YtgeapkjegemkeaaGreatDoorZRule
import Derived.Test.YtgeapkjegemkeaaGreatDoorZWhole
import Derived.Test.YtgeapkjegemkeaaGreatDoorPolSame
import Derived.Laws.StructEq
import Derived.Test.YtgeapkjegemkeaaGreatDoorPPolParse
import Derived.Test.YtgeapkjegemkeaaGreatDoorPolPure
namespace Go.Proofs.YtgeapkjegemkeaaGreatDoor
open Go Go.RowKit
set_option linter.unusedSimpArgs false
set_option linter.unusedVariables false

/-- The calls of a rule. -/
def callsS (S : Src) : Nat → List (ByteArray × Nat) → Rd → Option (List (ByteArray × Nat) × Rd)
  | 0, _, _ => none
  | n + 1, l, r => if (callR S r).isB S 4 bComma = true then callsS S n (l ++ [callT S r]) ((callR S r).isR S 4 bComma) else some (l ++ [callT S r], (callR S r).isR S 4 bComma)
section
variable {S : Src}
theorem bad_call6 {r : Rd} {e : Int} {p : Nat} (h : Bad S r e p) : Bad S (callR S r) e p := by
  unfold callR
  rw [h.noT_of, if_neg (show ¬ noT.kind = 2 by decide), if_neg (show ¬ noT.kind = 3 by decide), Rd.fails_err _ _ _ h.stuck]
  exact h.peeked
theorem calls_bad {n : Nat} {l : List (ByteArray × Nat)} {r : Rd} {e : Int} {p : Nat} (hn : 0 < n) (h : Bad S r e p) : BadO S e p (callsS S n l r) := by
  obtain ⟨m, rfl⟩ := Nat.exists_eq_succ_of_ne_zero (by omega : n ≠ 0)
  have hi := (bad_call6 h).is 4 bComma
  unfold callsS
  rw [if_neg (by rw [hi.2]; decide)]
  exact ⟨_, rfl, hi.1⟩
theorem calls_sim (hS : Lexd S) : ∀ n l r i, At S r i 0 → S.toks.length - i ≤ n → SimO S 0 (callsS S n l r) ((callG S i).andThen fun x j => turnsG S bComma (callG S) n (l ++ [x]) j)
  | 0, l, r, i, h, hn => by have := h.lt; omega
  | n + 1, l, r, i, h, hn => by
    have hc := call_sim h hS
    have hf := fwd_call (S := S) i
    have hlt := h.lt
    unfold callsS
    generalize callG S i = g at hc hf ⊢
    rcases g with ⟨v, j⟩ | ⟨e, p⟩ | _
    · obtain ⟨hv, ha⟩ := hc
      simp only at hv ha
      have hlj := ha.lt
      have hij : i + 1 ≤ j := (hf v j rfl).1
      rw [hv, ha.isB hS (show kindOf bComma = 4 by decide), ha.isR hS (show kindOf bComma = 4 by decide)]
      show SimO S 0 _ (turnsG S bComma (callG S) (n + 1) (l ++ [v]) j)
      unfold turnsG
      by_cases ht : (tk S j).text = bComma
      · rw [if_pos (decide_eq_true ht), if_pos ht, if_pos ht]
        have hst := ha.step hS (ha.ne_end hS ht (by decide)) ()
        unfold adv at hst ⊢
        by_cases hl : j + 1 < S.toks.length
        · rw [if_pos hl] at hst ⊢
          exact calls_sim hS n (l ++ [v]) _ (j + 1) hst.2 (by omega)
        · rw [if_neg hl] at hst ⊢
          exact calls_bad (by omega) hst
      · rw [if_neg (by rw [decide_eq_false ht]; decide), if_neg ht, if_neg ht]
        exact ⟨_, rfl, rfl, ha⟩
    · have hi := (show Bad S (callR S r) e p from hc).is 4 bComma
      rw [if_neg (by rw [hi.2]; decide)]
      exact ⟨_, rfl, hi.1⟩
    · exact hc.elim
theorem BadO.then {α β : Type} {e : Int} {p : Nat} {o : Option (α × Rd)} {f : α × Rd → Option (β × Rd)} (h : BadO S e p o) (hf : ∀ x r, Bad S r e p → BadO S e p (f (x, r))) : BadO S e p (o.bind f) := by
  obtain ⟨⟨x, r⟩, rfl, hb⟩ := h
  exact hf x r hb
theorem SimO.then {α β : Type} {d d' : Nat} {o : Option (α × Rd)} {g : Got α} {f : α × Rd → Option (β × Rd)} {k : α → Nat → Got β} (h : SimO S d o g) (hok : ∀ x r j, At S r j d → g = .ok x j → SimO S d' (f (x, r)) (k x j)) (hbad : ∀ x r e p, Bad S r e p → BadO S e p (f (x, r))) : SimO S d' (o.bind f) (g.andThen k) := by
  obtain ⟨⟨x, r⟩, rfl, hs⟩ := h
  rcases g with ⟨v, j⟩ | ⟨e, p⟩ | _
  · obtain ⟨rfl, ha⟩ := hs
    exact hok _ r j ha rfl
  · exact hbad x r e p hs
  · exact hs.elim
theorem SimO.of {α : Type} {d : Nat} {x : α × Rd} {g : Got α} (h : Sim S d x g) : SimO S d (some x) g := ⟨x, rfl, h⟩
/-- What a rule asks for. -/
def whenS (S : Src) (n : Nat) (r : Rd) : Option (Ex × Rd) := if r.isB S 2 bWhen = true then exprN S n (r.isR S 2 bWhen) else some (.plain 1, r.isR S 2 bWhen)
/-- An expression that begins at any place. -/
theorem expr_at (hS : Lexd S) {n : Nat} (hn : S.toks.length < n) : (∀ r i, At S r i 0 → SimO S 0 (exprN S n r) (exprG S n 0 i)) ∧ (∀ r e p, Bad S r e p → BadO S e p (exprN S n r)) := by
  have h1 := one_simN hS n 0 (by decide)
  have h2 := expr_sim (d := 0) (by omega) hS h1.1 (h1.2 (by omega)) (fun i hi => fwd_one n 0 i hi)
  exact ⟨fun r i h => h2.1 r i h (by omega), h2.2⟩
theorem when_sim (hS : Lexd S) {n : Nat} (hn : S.toks.length < n) {r : Rd} {i : Nat} (h : At S r i 0) : SimO S 0 (whenS S n r) (whenG S n i) := by
  unfold whenS whenG
  rw [h.isB hS (show kindOf bWhen = 2 by decide), h.isR hS (show kindOf bWhen = 2 by decide)]
  by_cases ht : (tk S i).text = bWhen
  · rw [if_pos (decide_eq_true ht), if_pos ht, if_pos ht]
    have hst := h.step hS (h.ne_end hS ht (by decide)) ()
    unfold adv at hst ⊢
    by_cases hl : i + 1 < S.toks.length
    · rw [if_pos hl] at hst ⊢
      exact (expr_at hS hn).1 _ (i + 1) hst.2
    · rw [if_neg hl] at hst ⊢
      exact (expr_at hS hn).2 _ _ _ hst
  · rw [if_neg (by rw [decide_eq_false ht]; decide), if_neg ht, if_neg ht]
    exact ⟨_, rfl, rfl, h⟩
theorem when_bad (hS : Lexd S) {n : Nat} (hn : S.toks.length < n) {r : Rd} {e : Int} {p : Nat} (h : Bad S r e p) : BadO S e p (whenS S n r) := by
  have hi := h.is 2 bWhen
  unfold whenS
  rw [if_neg (by rw [hi.2]; decide)]
  exact ⟨_, rfl, hi.1⟩
/-- A rule behind its on. -/
def ruleS (S : Src) (n : Nat) (r : Rd) : Option (Ru × Rd) :=
  (callsS S n [] r).bind fun c => (whenS S n c.2).bind fun x => some (⟨c.1, x.1, verdT S (x.2.wantR S 2 bDo)⟩, (verdR S (x.2.wantR S 2 bDo)).wantR S 4 bSemi)
theorem tail_bad {r : Rd} {e : Int} {p : Nat} (h : Bad S r e p) : Bad S ((verdR S (r.wantR S 2 bDo)).wantR S 4 bSemi) e p := (verd_bad (h.want 2 bDo)).want 4 bSemi
theorem rule_bad (hS : Lexd S) {n : Nat} (hn : S.toks.length < n) {r : Rd} {e : Int} {p : Nat} (h : Bad S r e p) : BadO S e p (ruleS S n r) :=
  (calls_bad (by omega) h).then fun c q hq => (when_bad hS hn hq).then fun x q2 hq2 => ⟨_, rfl, tail_bad hq2⟩
/-- The grammar's rule, behind its on. -/
def restG (S : Src) (n j : Nat) : Got Ru := (byTurnsG S bComma (callG S) n j).andThen fun cs k => (whenG S n k).andThen fun e l =>
    (demandG S bDo l).andThen fun _ m => (verdG S m).andThen fun v o => (demandG S bSemi o).andThen fun _ p => .ok ⟨cs, e, v⟩ p
theorem rule_sim (hS : Lexd S) {n : Nat} (hn : S.toks.length < n) {r : Rd} {i : Nat} (h : At S r i 0) : SimO S 0 (ruleS S n r) (restG S n i) := by
  refine SimO.then (calls_sim hS n [] r i h (by omega)) (fun cs q k hk _ => ?_) (fun cs q e p hq => (when_bad hS hn hq).then fun x q2 hq2 => ⟨_, rfl, tail_bad hq2⟩)
  refine SimO.then (when_sim hS hn hk) (fun x q2 l hl _ => ?_) (fun x q2 e p hq2 => ⟨_, rfl, tail_bad hq2⟩)
  refine SimO.of ?_
  refine Sim.andThen (hl.want hS (show kindOf bDo = 2 by decide) (by decide)) (fun m hm _ => ?_) (fun e p hb => (verd_bad hb).want 4 bSemi)
  have hv := verd_sim hm hS
  refine Sim.andThen hv (fun o ho hg => ?_) (fun e p hb => hb.want 4 bSemi)
  exact Sim.andThen (ho.want hS (show kindOf bSemi = 4 by decide) (by decide)) (fun p2 hp2 _ => ⟨rfl, hp2⟩) (fun e p hb => hb)
end
end Go.Proofs.YtgeapkjegemkeaaGreatDoor
namespace Go.Proofs.YtgeapkjegemkeaaGreatDoor
open Go Go.RowKit
set_option linter.unusedSimpArgs false
set_option linter.unusedVariables false

/-- The rules, as the document reads them. -/
def rulesS (S : Src) (n : Nat) : Nat → List Ru → Rd → Option (List Ru × Rd)
  | 0, _, _ => none
  | m + 1, l, r =>
    if r.err ≠ 0 then some (l, r)
    else if (r.peekR S).isB S 2 bOn = true then
      if l.length = 512 then some (l, ((r.peekR S).isR S 2 bOn).fails 63 (r.peekT S).pos)
      else (ruleS S n ((r.peekR S).isR S 2 bOn)).bind fun x => rulesS S n m (l ++ [x.1]) x.2
    else some (l, (r.peekR S).isR S 2 bOn)
section
variable {S : Src}
/-- What stands when the text's end has been asked for. -/
def Shut {α : Type} (S : Src) (o : Option (α × Rd)) (g : Got α) : Prop := ∃ x, o = some x ∧ match g with
  | .ok v _ => x.1 = v ∧ (x.2.kindR S 1).err = 0
  | .bad e p => e ≠ 0 ∧ (x.2.kindR S 1).err = e ∧ (x.2.kindR S 1).bad = p
  | .out => False
theorem Bad.shut {α : Type} {r : Rd} {e : Int} {p : Nat} (h : Bad S r e p) (x : α) : Shut S (some (x, r)) (.bad e p : Got α) := ⟨_, rfl, h.ne, end_bad h⟩
theorem BadO.shut {α : Type} {o : Option (α × Rd)} {e : Int} {p : Nat} (h : BadO S e p o) : Shut S o (.bad e p : Got α) := by
  obtain ⟨⟨x, r⟩, rfl, hb⟩ := h
  exact hb.shut x
theorem fwd_when (n k : Nat) (hk : k < S.toks.length) : Fwd S 0 k (whenG S n k) := .ite (((fwd_adv k ()).andThen (m := 1) fun _ j hj => fwd_expr n 0 j hj).le (Nat.zero_le _)) (fwd_ok hk _)
theorem fwd_rest (n i : Nat) (hi : i < S.toks.length) : Fwd S 0 i (restG S n i) :=
  ((fwd_byTurns bComma (fun i _ => fwd_call i) n i hi).andThen (m := 0) fun cs k hk => (fwd_when n k hk).andThen (m := 0) fun e l hl =>
    ((fwd_demand bDo l).andThen (m := 0) fun _ m hm => ((fwd_verd m).andThen (m := 0) fun v o ho => ((fwd_demand bSemi o).andThen (m := 0) fun _ p hp => fwd_ok hp _).le (Nat.zero_le _)).le (Nat.zero_le _)).le (Nat.zero_le _)).le (Nat.zero_le _)
theorem rules_bad {n m : Nat} {l : List Ru} {r : Rd} {e : Int} {p : Nat} (hm : 0 < m) (h : Bad S r e p) : BadO S e p (rulesS S n m l r) := by
  obtain ⟨k, rfl⟩ := Nat.exists_eq_succ_of_ne_zero (by omega : m ≠ 0)
  unfold rulesS
  by_cases he : r.err ≠ 0
  · rw [if_pos he]; exact ⟨_, rfl, h⟩
  · have hi := h.peeked.is 2 bOn
    rw [if_neg he, if_neg (by rw [hi.2]; decide)]
    exact ⟨_, rfl, hi.1⟩
theorem rules_sim (hS : Lexd S) {n : Nat} (hn : S.toks.length < n) : ∀ m l r i, At S r i 0 → S.toks.length - i < m → Shut S (rulesS S n m l r) (rulesG S n m l i)
  | 0, l, r, i, h, hm => by omega
  | m + 1, l, r, i, h, hm => by
    have hlt := h.lt
    unfold rulesS rulesG
    rw [if_neg (fun g => g h.err), h.peekR, h.peekT, h.isB hS (show kindOf bOn = 2 by decide), h.isR hS (show kindOf bOn = 2 by decide)]
    by_cases ht : (tk S i).text = bOn
    · have hk := h.ne_end hS ht (by decide)
      rw [if_pos (decide_eq_true ht), if_pos ht, if_neg hk]
      by_cases hl : l.length = 512
      · rw [if_pos hl, if_pos ⟨hl, ht⟩]
        exact (Bad.set (r := r.step) h.err (by decide) _).shut l
      · rw [if_neg hl, if_neg (fun g => hl g.1)]
        have hst := h.step hS hk ()
        unfold ruleG demandG
        rw [if_pos ht]
        unfold adv at hst ⊢
        by_cases hj : i + 1 < S.toks.length
        · rw [if_pos hj] at hst ⊢
          show Shut S _ ((restG S n (i + 1)).andThen fun x j => rulesG S n m (l ++ [x]) j)
          obtain ⟨⟨x, q⟩, hx, hs⟩ := rule_sim hS hn hst.2
          rw [hx]
          have hf : Fwd S 0 (i + 1) (restG S n (i + 1)) := fwd_rest n (i + 1) hst.2.lt
          generalize restG S n (i + 1) = g at hs hf ⊢
          rcases g with ⟨v, j⟩ | ⟨e, p⟩ | _
          · obtain ⟨h1, ha⟩ := hs
            simp only at h1 ha
            subst h1
            have := (hf x j rfl).1
            exact rules_sim hS hn m (l ++ [x]) q j ha (by omega)
          · exact (rules_bad (by omega) (show Bad S q e p from hs)).shut
          · exact hs.elim
        · rw [if_neg hj] at hst ⊢
          exact ((rule_bad hS hn hst).then (fun x q hq => rules_bad (by omega) hq)).shut
    · rw [if_neg (by rw [decide_eq_false ht]; decide), if_neg ht]
      by_cases hk : (tk S i).kind = 1
      · rw [if_pos hk]
        exact ⟨_, rfl, rfl, end_at h hk⟩
      · rw [if_neg hk, if_neg (fun g => ht g.2)]
        unfold ruleG demandG
        rw [if_neg ht]
        exact ⟨_, rfl, (by decide : (61 : Int) ≠ 0), end_no h hk⟩
theorem Sim.shut {α β : Type} {d : Nat} {x : α × Rd} {g : Got α} {f : α → Nat → Got β} {o : Option (β × Rd)} (h : Sim S d x g) (hok : ∀ j, At S x.2 j d → Shut S o (f x.1 j)) (hbad : ∀ e p, Bad S x.2 e p → BadO S e p o) : Shut S o (g.andThen f) := by
  rcases g with ⟨v, j⟩ | ⟨e, p⟩ | _
  · obtain ⟨h1, h2⟩ := h; subst h1; exact hok j h2
  · exact (hbad e p h).shut
  · exact h.elim
theorem Shut.map {α β : Type} {o : Option (α × Rd)} {g : Got α} (h : Shut S o g) (f : α → β) : Shut S (o.bind fun x => some (f x.1, x.2)) (g.andThen fun x j => .ok (f x) j) := by
  obtain ⟨⟨x, r⟩, rfl, hs⟩ := h
  rcases g with ⟨v, j⟩ | ⟨e, p⟩ | _
  · exact ⟨_, rfl, congrArg f hs.1, hs.2⟩
  · exact ⟨_, rfl, hs⟩
  · exact hs.elim
/-- A policy's head, step by step. -/
abbrev q1 (S : Src) (r : Rd) : Rd := r.wantR S 2 bArch
abbrev q2 (S : Src) (r : Rd) : Rd := (q1 S r).kindR S 2
abbrev q3 (S : Src) (r : Rd) : Rd := (q2 S r).wantR S 4 bSemi
abbrev q4 (S : Src) (r : Rd) : Rd := (q3 S r).wantR S 2 bForeign
abbrev q5 (S : Src) (r : Rd) : Rd := verdR S (q4 S r)
abbrev q6 (S : Src) (r : Rd) : Rd := (q5 S r).wantR S 4 bSemi
abbrev q7 (S : Src) (r : Rd) : Rd := (q6 S r).wantR S 2 bDefault
abbrev q8 (S : Src) (r : Rd) : Rd := verdR S (q7 S r)
abbrev q9 (S : Src) (r : Rd) : Rd := (q8 S r).wantR S 4 bSemi
/-- A policy. -/
def parseS (S : Src) (n : Nat) (r : Rd) : Option (Po × Rd) :=
  (rulesS S n n [] (q9 S r)).bind fun x => some (⟨((q1 S r).kindT S 2).text, verdT S (q4 S r), verdT S (q7 S r), x.1⟩, x.2)
theorem parse_bad {n : Nat} {r : Rd} {e : Int} {p : Nat} (hn : 0 < n) (h : Bad S (q9 S r) e p) : BadO S e p (parseS S n r) :=
  (rules_bad hn h).then fun x q hq => ⟨_, rfl, hq⟩
theorem parse_sim (hS : Lexd S) {n : Nat} (hn : S.toks.length < n) {r : Rd} {i : Nat} (h : At S r i 0) : Shut S (parseS S n r) (policyG S n i) := by
  have b9 : ∀ {e p}, Bad S (q8 S r) e p → BadO S e p (parseS S n r) := fun h => parse_bad (by omega) (h.want 4 bSemi)
  have b8 : ∀ {e p}, Bad S (q7 S r) e p → BadO S e p (parseS S n r) := fun h => b9 (verd_bad h)
  have b7 : ∀ {e p}, Bad S (q6 S r) e p → BadO S e p (parseS S n r) := fun h => b8 (h.want 2 bDefault)
  have b6 : ∀ {e p}, Bad S (q5 S r) e p → BadO S e p (parseS S n r) := fun h => b7 (h.want 4 bSemi)
  have b5 : ∀ {e p}, Bad S (q4 S r) e p → BadO S e p (parseS S n r) := fun h => b6 (verd_bad h)
  have b4 : ∀ {e p}, Bad S (q3 S r) e p → BadO S e p (parseS S n r) := fun h => b5 (h.want 2 bForeign)
  have b3 : ∀ {e p}, Bad S (q2 S r) e p → BadO S e p (parseS S n r) := fun h => b4 (h.want 4 bSemi)
  have b2 : ∀ {e p}, Bad S (q1 S r) e p → BadO S e p (parseS S n r) := fun h => b3 (h.kind 2).1
  unfold policyG
  refine Sim.shut (h.want hS (show kindOf bArch = 2 by decide) (by decide)) (fun a ha => ?_) (fun e p hb => b2 hb)
  refine Sim.shut (name_sim ha hS) (fun b hb => ?_) (fun e p hb => b3 hb)
  refine Sim.shut (hb.want hS (show kindOf bSemi = 4 by decide) (by decide)) (fun c hc => ?_) (fun e p hb => b4 hb)
  refine Sim.shut (hc.want hS (show kindOf bForeign = 2 by decide) (by decide)) (fun d hd => ?_) (fun e p hb => b5 hb)
  refine Sim.shut (verd_sim hd hS) (fun e he => ?_) (fun e p hb => b6 hb)
  refine Sim.shut (he.want hS (show kindOf bSemi = 4 by decide) (by decide)) (fun g hg => ?_) (fun e p hb => b7 hb)
  refine Sim.shut (hg.want hS (show kindOf bDefault = 2 by decide) (by decide)) (fun j hj => ?_) (fun e p hb => b8 hb)
  refine Sim.shut (verd_sim hj hS) (fun k hk => ?_) (fun e p hb => b9 hb)
  refine Sim.shut (hk.want hS (show kindOf bSemi = 4 by decide) (by decide)) (fun l hl => ?_) (fun e p hb => parse_bad (by omega) hb)
  exact (rules_sim hS hn n [] _ l hl (by omega)).map (fun x => Po.mk _ _ _ x)
/-- How far the document's reader goes. -/
theorem goes_calls : ∀ n l r x, J S r → callsS S n l r = some x → Goes S r x.2
  | 0, l, r, x, hj, h => by cases h
  | n + 1, l, r, x, hj, h => by
    have g1 := goes_call hj
    have g2 := goes_is g1.j 4 (by decide) bComma
    unfold callsS at h
    split at h
    · exact (g1.trans g2).trans (goes_calls n _ _ x g2.j h)
    · cases h; exact g1.trans g2
theorem goes_when {n : Nat} {r : Rd} {x : Ex × Rd} (hj : J S r) (h : whenS S n r = some x) : Goes S r x.2 := by
  have g1 := goes_is hj 2 (by decide) bWhen
  unfold whenS at h
  split at h
  · exact g1.trans (goes_exprN n _ x g1.j h)
  · cases h; exact g1
theorem goes_rule {n : Nat} {r : Rd} {x : Ru × Rd} (hj : J S r) (h : ruleS S n r = some x) : Goes S r x.2 := by
  unfold ruleS at h
  cases hc : callsS S n [] r with
  | none => rw [hc] at h; cases h
  | some c =>
    rw [hc] at h
    have g1 := goes_calls n [] r c hj hc
    cases hw : whenS S n c.2 with
    | none => simp only [Option.bind_some, hw] at h; cases h
    | some y =>
      simp only [Option.bind_some, hw] at h
      cases h
      have g2 := goes_when g1.j hw
      have g3 := goes_want g2.j 2 (by decide) bDo
      have g4 := goes_verd g3.j
      exact g1.trans (g2.trans (g3.trans (g4.trans (goes_want g4.j 4 (by decide) bSemi))))
theorem goes_rules {n : Nat} : ∀ m l r x, J S r → rulesS S n m l r = some x → Goes S r x.2
  | 0, l, r, x, hj, h => by cases h
  | m + 1, l, r, x, hj, h => by
    have g0 := goes_peek hj
    have g1 := goes_is g0.j 2 (by decide) bOn
    unfold rulesS at h
    split at h
    · cases h; exact .refl hj
    · split at h
      · split at h
        · cases h; exact g0.trans (g1.trans (goes_fails g1.j 63 (by decide) _))
        · cases hr : ruleS S n ((r.peekR S).isR S 2 bOn) with
          | none => rw [hr] at h; cases h
          | some y =>
            rw [hr] at h
            have g2 := goes_rule g1.j hr
            exact g0.trans (g1.trans (g2.trans (goes_rules m _ _ x g2.j h)))
      · cases h; exact g0.trans g1
theorem goes_head {r : Rd} (hj : J S r) : Goes S r (q1 S r) ∧ Goes S r (q2 S r) ∧ Goes S r (q3 S r) ∧ Goes S r (q4 S r) ∧ Goes S r (q5 S r) ∧ Goes S r (q6 S r) ∧ Goes S r (q7 S r) ∧ Goes S r (q8 S r) ∧ Goes S r (q9 S r) := by
  have g1 : Goes S r (q1 S r) := goes_want hj 2 (by decide) bArch
  have g2 : Goes S r (q2 S r) := g1.trans (goes_kind g1.j 2 (by decide))
  have g3 : Goes S r (q3 S r) := g2.trans (goes_want g2.j 4 (by decide) bSemi)
  have g4 : Goes S r (q4 S r) := g3.trans (goes_want g3.j 2 (by decide) bForeign)
  have g5 : Goes S r (q5 S r) := g4.trans (goes_verd g4.j)
  have g6 : Goes S r (q6 S r) := g5.trans (goes_want g5.j 4 (by decide) bSemi)
  have g7 : Goes S r (q7 S r) := g6.trans (goes_want g6.j 2 (by decide) bDefault)
  have g8 : Goes S r (q8 S r) := g7.trans (goes_verd g7.j)
  exact ⟨g1, g2, g3, g4, g5, g6, g7, g8, g8.trans (goes_want g8.j 4 (by decide) bSemi)⟩
end
end Go.Proofs.YtgeapkjegemkeaaGreatDoor
namespace Go.Proofs.YtgeapkjegemkeaaGreatDoor
open Go Go.RowKit
set_option linter.unusedSimpArgs false
set_option linter.unusedVariables false

/-- append of known cells onto a row of the call's own. -/
theorem oper_append6 {P : Program} {w : World} {o : Oper} {a : Act} {K : Act → World → Prop} {Q : Exit → Act → World → Prop} (s x : Operand) (t : TypeId)
    (ho : o.op = .call { callee := .builtin .append, args := #[s, x], argTypes := #[t, t] })
    (base : Nat) (e : TypeId) (i : TypeInfo) (z : Value) (size bytes : Nat) (ht : P.underlying t = some (.slice e)) (hi : P.info? e = some i) (hz : i.zero = some z)
    (hsize : i.size = size) (hby : i.bytes = bytes) (hzs : z.cells.size = size) (hsz : 0 < size)
    (v : Value) (n : Nat) (xs : List Value) (hs : a.eval s = v) (hown : w.ownsRow base e size v n xs)
    (ad : Addr) (m c : Nat) (news : List Value) (hx : a.eval x = .slice (some ad) m c) (hl : news.length = m * size) (hnews : ∀ j u, news[j]? = some u → w.cell? (ad.add j) = some u) (h1 : ∀ u ∈ news, u.oneCell' = true)
    (h63 : n + m ≤ maxLen) (hbytes : (n + m) * bytes ≤ 140737488355328) (hbase : base ≤ w.heap.size)
    (h : ∀ v' w', w'.ownsRow base e size v' (n + m) (xs ++ news) → w.grownBy w' v.ownBlock → (v'.ownBlock = v.ownBlock ∨ v'.ownBlock = some w.heap.size) → K (a.put o.dst v') w') :
    Oper.wp P o a w K Q := by
  obtain ⟨v', w', hr, h2, h3, h4, h5⟩ := run_append_own_at (P := P) w base t o.type e i z size bytes ht hi hz hsize hby hzs hsz v n xs hown ad m c news hl hnews h1 h63 hbytes hbase
  unfold Oper.wp execOp
  simp only [ho, resolve, invoke, builtin, Sem.run_bind, Sem.run_pure, Result.andThen_ok, List.map_toArray, List.map_cons, List.map_nil, hs, hx, hr]
  exact h v' w' h2 h3 h5
theorem info_parts6 {P : Program} {e : TypeId} {z : Value} {sz bytes : Nat} (h : (P.info? e).map (fun i => (i.zero, i.size, i.bytes)) = some (some z, sz, bytes)) : ∃ i, P.info? e = some i ∧ i.zero = some z ∧ i.size = sz ∧ i.bytes = bytes := by
  rcases hi : P.info? e with _ | i
  · rw [hi] at h; cases h
  · rw [hi] at h
    simp only [Option.map_some, Option.some.injEq, Prod.mk.injEq] at h
    exact ⟨i, rfl, h.1, h.2.1, h.2.2⟩
end Go.Proofs.YtgeapkjegemkeaaGreatDoor
namespace Go.Proofs.YtgeapkjegemkeaaGreatDoor
open Go Go.RowKit
set_option linter.unusedSimpArgs false
set_option linter.unusedVariables false

theorem RdAt.keep6 {w1 wd : World} {b : Nat} {A : Option Addr} {cap : Nat} {S : Src} {r : Rd} (h : RdAt w1 b A cap S r) (hs : w1.heap.size ≤ wd.heap.size) (hk : ∀ c, c ≤ b → wd.heap[c]? = w1.heap[c]?) : RdAt wd b A cap S r := by
  refine ⟨World.rowIs.of_block h.row (hk b (Nat.le_refl _)), fun hn => ?_, h.low, h.size⟩
  obtain ⟨tb, o, rfl, hl, hc⟩ := h.toks hn
  obtain ⟨tb', o', e, hl'⟩ := h.low hn
  injection e with e; injection e with e1 _ _; subst e1
  have hkb := hk tb (by omega)
  have cell : ∀ j u, w1.cell? ⟨tb, j, none⟩ = some u → wd.cell? ⟨tb, j, none⟩ = some u := fun j u hu => (World.cell?_of_block (a := ⟨tb, j, none⟩) hkb).trans hu
  refine ⟨tb, o, rfl, by omega, fun i hi => ?_⟩
  obtain ⟨c0, c1, c2, c3⟩ := hc i hi
  exact ⟨cell _ _ c0, cell _ _ c1, cell _ _ c2, cell _ _ c3⟩
/-- A rule whose calls are being read. -/
structure CallsD (w W : World) (b : Nat) (A : Option Addr) (cap : Nat) (S : Src) (r : Rd) (l : List (ByteArray × Nat)) (v : Value) : Prop where
  rd : RdAt W b A cap S r
  gr : w.grownBy W (some b)
  bw : b < w.heap.size
  box : W.heap[w.heap.size + 1]? = some (ruO v 1 (.slice none 0 0) 0 0 0 0 0 0)
  res : W.heap[w.heap.size]? = some (ruO (.slice none 0 0) 0 (.slice none 0 0) 0 0 0 0 0 0)
  own : W.ownsRow (w.heap.size + 2) 92 2 v l.length (callsC l)
section
variable {w W W1 wd : World} {b : Nat} {A : Option Addr} {cap : Nat} {S : Src} {r r1 : Rd} {l : List (ByteArray × Nat)} {v v' : Value} {x : ByteArray × Nat} {O : Obj}
theorem CallsD.size (h : CallsD w W b A cap S r l v) : w.heap.size + 2 ≤ W.heap.size := (Array.getElem?_eq_some_iff.1 h.box).1
theorem CallsD.call (h : CallsD w W b A cap S r l v) (hp : RdAt W1 b A cap S r1) (hg : W.grownBy W1 (some b)) : CallsD w W1 b A cap S r1 l v := by
  have hbw := h.bw
  refine ⟨hp, grown_trans h.gr hg, hbw, kept_box h.box hg (by omega), kept_box h.res hg (by omega), h.own.kept (row := some b) hg ?_⟩
  rcases hv : v.ownBlock with _ | c
  · exact .inl rfl
  · exact .inr (fun e => by injection e with e; have := (h.own.lt c hv).1; omega)
theorem CallsD.drawn (h : CallsD w W b A cap S r l v) (n : Nat) : CallsD w (W.drewN n) b A cap S r l v :=
  ⟨h.rd.keep6 (Nat.le_refl _) (fun _ _ => rfl), grown_drawn h.gr n, h.bw, h.box, h.res, h.own⟩
theorem CallsD.turn (h : CallsD w W b A cap S r l v) (ho : wd.ownsRow (w.heap.size + 2) 92 2 v' (l.length + 1) (callsC l ++ callC x)) (hg : (W.alloc O).grownBy wd v.ownBlock) (hv : v'.ownBlock = v.ownBlock ∨ v'.ownBlock = some (W.alloc O).heap.size) :
    CallsD w (wd.setCell ⟨w.heap.size + 1, 0, none⟩ v') b A cap S r (l ++ [x]) v' ∧ wd.heap[w.heap.size + 1]? = some (ruO v 1 (.slice none 0 0) 0 0 0 0 0 0) := by
  have hsz : (W.alloc O).heap.size = W.heap.size + 1 := by simp
  have hvl : ∀ c, v.ownBlock = some c → w.heap.size + 2 ≤ c ∧ c < W.heap.size := fun c e => h.own.lt c e
  have hbw := h.bw
  have hs := h.size
  have size3 := hg.size
  have keep : ∀ c, c < w.heap.size + 2 → wd.heap[c]? = W.heap[c]? := fun c hc => (hg.block c (by omega) (fun e => by have := hvl c e.symm; omega)).trans (Below.heap_alloc W O c (by omega))
  have keep2 : ∀ c, c < W.heap.size → some c ≠ v.ownBlock → wd.heap[c]? = W.heap[c]? := fun c hc hne => (hg.block c (by omega) hne).trans (Below.heap_alloc W O c hc)
  have hbx : wd.heap[w.heap.size + 1]? = some (ruO v 1 (.slice none 0 0) 0 0 0 0 0 0) := (keep _ (by omega)).trans h.box
  refine ⟨⟨?_, ?_, hbw, heap_set1 hbx 0 _, kept_set ((keep _ (by omega)).trans h.res) (by omega) 0 _, ?_⟩, hbx⟩
  · exact (h.rd.keep6 (by omega) (fun c hc => keep c (by omega))).new (by omega) 0 _
  · refine grown_new ⟨hg.os.trans h.gr.os, hg.tape.trans h.gr.tape, hg.output.trans h.gr.output, by have := h.gr.size; omega, fun c hc hne => (keep c (by omega)).trans (h.gr.block c hc hne)⟩ (by omega) 0 _
  · rw [List.length_append, callsC_snoc]
    refine World.ownsRow.kept (row := some (w.heap.size + 1)) ho (grown_set (World.grownBy.refl wd _) 0 _) ?_
    rcases hv with hv | hv
    · rw [hv]
      rcases hq : v.ownBlock with _ | c
      · exact .inl rfl
      · exact .inr (fun e => by injection e with e; have := (hvl c hq).1; omega)
    · rw [hv]; exact .inr (fun e => by injection e with e; omega)
end
/-- A rule with its calls. -/
structure RuleD (w W : World) (b : Nat) (A : Option Addr) (cap : Nat) (S : Src) (r : Rd) (tb capc : Nat) (cs : List (ByteArray × Nat)) (x : Ex) (Ax : Option Addr) (cx : Nat) (k n : Int) : Prop where
  rd : RdAt W b A cap S r
  gr : w.grownBy W (some b)
  bw : b < w.heap.size
  box : W.heap[w.heap.size + 1]? = some (ruO (.slice (some ⟨tb, 0, none⟩) cs.length capc) x.op (.slice Ax x.args.length cx) x.field (x.mask : Int) x.rel (x.value : Int) k n)
  res : W.heap[w.heap.size]? = some (ruO (.slice none 0 0) 0 (.slice none 0 0) 0 0 0 0 0 0)
  lo : w.heap.size + 2 ≤ tb
  lt : tb < W.heap.size
  calls : ∀ j u, (callsC cs)[j]? = some u → W.cell? ⟨tb, j, none⟩ = some u
  ex : ExIn W (fun k => w.heap.size + 2 ≤ k) x Ax cx
theorem CallsD.done {w W : World} {b : Nat} {A : Option Addr} {cap : Nat} {S : Src} {r : Rd} {l : List (ByteArray × Nat)} {v : Value} (h : CallsD w W b A cap S r l v) (hp : 0 < l.length) : ∃ tb capc, v = .slice (some ⟨tb, 0, none⟩) l.length capc ∧ RuleD w W b A cap S r tb capc l (.plain 1) none 0 0 0 := by
  have hb := h.box
  rcases h.own.2 with ⟨_, h0⟩ | ⟨tb, cap', cur, hv, hlo, hh, _, _, hs, ht⟩
  · omega
  · subst hv
    refine ⟨tb, cap', rfl, h.rd, h.gr, h.bw, hb, h.res, hlo, (Array.getElem?_eq_some_iff.1 hh).1, fun j u hj => ?_, .inl ⟨rfl, rfl, rfl⟩⟩
    rw [World.ownsRow.cellAt h.own j (by rw [← h.own.1]; exact (List.getElem?_eq_some_iff.1 hj).1)]
    exact hj
namespace RuleD
variable {w W W' : World} {b : Nat} {A : Option Addr} {cap : Nat} {S : Src} {r r' : Rd} {tb capc : Nat} {cs : List (ByteArray × Nat)} {x : Ex} {Ax : Option Addr} {cx : Nat} {k n : Int}
theorem size (h : RuleD w W b A cap S r tb capc cs x Ax cx k n) : w.heap.size + 2 ≤ W.heap.size := (Array.getElem?_eq_some_iff.1 h.box).1
theorem call (h : RuleD w W b A cap S r tb capc cs x Ax cx k n) (hp : RdAt W' b A cap S r') (hg : W.grownBy W' (some b)) : RuleD w W' b A cap S r' tb capc cs x Ax cx k n := by
  have := h.bw; have := h.lo; have := h.lt; have := hg.size
  exact ⟨hp, grown_trans h.gr hg, h.bw, kept_box h.box hg (by omega), kept_box h.res hg (by omega), h.lo, by omega, fun j u hj => (World.cell?_of_block (a := ⟨tb, j, none⟩) (hg.block tb h.lt (fun e => by injection e with e; omega))).trans (h.calls j u hj), h.ex.keep hg.size (fun _ hk => hk) (fun c hc hl => hg.block c hl (fun e => by injection e with e; omega))⟩
theorem setEx {x' : Ex} {A' : Option Addr} {c' : Nat} (h : RuleD w W b A cap S r tb capc cs x Ax cx k n) (hx : ExIn W (fun k => w.heap.size + 2 ≤ k) x' A' c') :
    RuleD w ((((((W.setCell ⟨w.heap.size + 1, 1, none⟩ (.int .i64 x'.op)).setCell ⟨w.heap.size + 1, 2, none⟩ (.slice A' x'.args.length c')).setCell ⟨w.heap.size + 1, 3, none⟩ (.int .i64 x'.field)).setCell ⟨w.heap.size + 1, 4, none⟩ (.int .u64 (x'.mask : Int))).setCell ⟨w.heap.size + 1, 5, none⟩ (.int .i64 x'.rel)).setCell ⟨w.heap.size + 1, 6, none⟩ (.int .u64 (x'.value : Int))) b A cap S r tb capc cs x' A' c' k n := by
  have := h.bw; have := h.lo; have := h.lt
  refine ⟨(((((h.rd.new (by omega) 1 _).new (by omega) 2 _).new (by omega) 3 _).new (by omega) 4 _).new (by omega) 5 _).new (by omega) 6 _,
    grown_new (grown_new (grown_new (grown_new (grown_new (grown_new h.gr (by omega) 1 _) (by omega) 2 _) (by omega) 3 _) (by omega) 4 _) (by omega) 5 _) (by omega) 6 _, h.bw,
    heap_set1 (heap_set1 (heap_set1 (heap_set1 (heap_set1 (heap_set1 h.box 1 _) 2 _) 3 _) 4 _) 5 _) 6 _,
    kept_set (kept_set (kept_set (kept_set (kept_set (kept_set h.res (by omega) 1 _) (by omega) 2 _) (by omega) 3 _) (by omega) 4 _) (by omega) 5 _) (by omega) 6 _, h.lo, by simpa [World.setCell] using h.lt, fun j u hj => ?_, ?_⟩
  · have ne : ∀ c, (⟨w.heap.size + 1, c, none⟩ : Addr) ≠ ⟨tb, j, none⟩ := fun c e => by injection e with e _; omega
    exact (World.cell?_setCell_other (h := ne 6) ..).trans ((World.cell?_setCell_other (h := ne 5) ..).trans ((World.cell?_setCell_other (h := ne 4) ..).trans ((World.cell?_setCell_other (h := ne 3) ..).trans ((World.cell?_setCell_other (h := ne 2) ..).trans ((World.cell?_setCell_other (h := ne 1) ..).trans (h.calls j u hj))))))
  · exact ex_set (ex_set (ex_set (ex_set (ex_set (ex_set hx (fun k hk => by omega) 1 _) (fun k hk => by omega) 2 _) (fun k hk => by omega) 3 _) (fun k hk => by omega) 4 _) (fun k hk => by omega) 5 _) (fun k hk => by omega) 6 _
theorem setVerd {k' n' : Int} (h : RuleD w W b A cap S r tb capc cs x Ax cx k n) :
    RuleD w ((W.setCell ⟨w.heap.size + 1, 7, none⟩ (.int .i64 k')).setCell ⟨w.heap.size + 1, 8, none⟩ (.int .u64 n')) b A cap S r tb capc cs x Ax cx k' n' := by
  have := h.bw; have := h.lo; have := h.lt
  refine ⟨(h.rd.new (by omega) 7 _).new (by omega) 8 _, grown_new (grown_new h.gr (by omega) 7 _) (by omega) 8 _, h.bw, heap_set1 (heap_set1 h.box 7 _) 8 _, kept_set (kept_set h.res (by omega) 7 _) (by omega) 8 _, h.lo, by simpa [World.setCell] using h.lt, fun j u hj => ?_, ?_⟩
  · have ne : ∀ c, (⟨w.heap.size + 1, c, none⟩ : Addr) ≠ ⟨tb, j, none⟩ := fun c e => by injection e with e _; omega
    exact (World.cell?_setCell_other (h := ne 8) ..).trans ((World.cell?_setCell_other (h := ne 7) ..).trans (h.calls j u hj))
  · exact ex_set (ex_set h.ex (fun k hk => by omega) 7 _) (fun k hk => by omega) 8 _
theorem done {v7 : Nat} (h : RuleD w W b A cap S r tb capc cs x Ax cx k (v7 : Int)) :
    RuP w.heap.size ⟨cs, x, (k, v7)⟩ (ruV ⟨cs, x, (k, v7)⟩ tb capc Ax cx) (((((((((W.setCell ⟨w.heap.size, 0, none⟩ (.slice (some ⟨tb, 0, none⟩) cs.length capc)).setCell ⟨w.heap.size, 1, none⟩ (.int .i64 x.op)).setCell ⟨w.heap.size, 2, none⟩ (.slice Ax x.args.length cx)).setCell ⟨w.heap.size, 3, none⟩ (.int .i64 x.field)).setCell ⟨w.heap.size, 4, none⟩ (.int .u64 (x.mask : Int))).setCell ⟨w.heap.size, 5, none⟩ (.int .i64 x.rel)).setCell ⟨w.heap.size, 6, none⟩ (.int .u64 (x.value : Int))).setCell ⟨w.heap.size, 7, none⟩ (.int .i64 k)).setCell ⟨w.heap.size, 8, none⟩ (.int .u64 (v7 : Int))) ∧
    RdAt (((((((((W.setCell ⟨w.heap.size, 0, none⟩ (.slice (some ⟨tb, 0, none⟩) cs.length capc)).setCell ⟨w.heap.size, 1, none⟩ (.int .i64 x.op)).setCell ⟨w.heap.size, 2, none⟩ (.slice Ax x.args.length cx)).setCell ⟨w.heap.size, 3, none⟩ (.int .i64 x.field)).setCell ⟨w.heap.size, 4, none⟩ (.int .u64 (x.mask : Int))).setCell ⟨w.heap.size, 5, none⟩ (.int .i64 x.rel)).setCell ⟨w.heap.size, 6, none⟩ (.int .u64 (x.value : Int))).setCell ⟨w.heap.size, 7, none⟩ (.int .i64 k)).setCell ⟨w.heap.size, 8, none⟩ (.int .u64 (v7 : Int))) b A cap S r ∧
    w.grownBy (((((((((W.setCell ⟨w.heap.size, 0, none⟩ (.slice (some ⟨tb, 0, none⟩) cs.length capc)).setCell ⟨w.heap.size, 1, none⟩ (.int .i64 x.op)).setCell ⟨w.heap.size, 2, none⟩ (.slice Ax x.args.length cx)).setCell ⟨w.heap.size, 3, none⟩ (.int .i64 x.field)).setCell ⟨w.heap.size, 4, none⟩ (.int .u64 (x.mask : Int))).setCell ⟨w.heap.size, 5, none⟩ (.int .i64 x.rel)).setCell ⟨w.heap.size, 6, none⟩ (.int .u64 (x.value : Int))).setCell ⟨w.heap.size, 7, none⟩ (.int .i64 k)).setCell ⟨w.heap.size, 8, none⟩ (.int .u64 (v7 : Int))) (some b) := by
  have := h.bw; have := h.lo; have := h.lt; have := h.size
  have hr : RuIn W (fun k => w.heap.size + 1 ≤ k) ⟨cs, x, (k, v7)⟩ tb Ax cx := ⟨⟨by omega, h.lt, h.calls⟩, h.ex.keep (Nat.le_refl _) (fun k hk => by omega) (fun _ _ _ => rfl)⟩
  have rset : ∀ {V : World} (j : Nat) (v : Value), RuIn V (fun k => w.heap.size + 1 ≤ k) ⟨cs, x, (k, v7)⟩ tb Ax cx → RuIn (V.setCell ⟨w.heap.size, j, none⟩ v) (fun k => w.heap.size + 1 ≤ k) ⟨cs, x, (k, v7)⟩ tb Ax cx := fun {V} j v hV =>
    hV.keep (by simp [World.setCell]) (fun _ hk => hk) (fun c hc _ => Below.heap_setCell V ⟨w.heap.size, j, none⟩ v c (show c ≠ w.heap.size by omega))
  refine ⟨⟨tb, capc, Ax, cx, rfl, (rset 8 _ (rset 7 _ (rset 6 _ (rset 5 _ (rset 4 _ (rset 3 _ (rset 2 _ (rset 1 _ (rset 0 _ hr))))))))).keep (Nat.le_refl _) (fun k hk => by omega) (fun _ _ _ => rfl)⟩, ?_, ?_⟩
  · exact ((((((((h.rd.new (by omega) 0 _).new (by omega) 1 _).new (by omega) 2 _).new (by omega) 3 _).new (by omega) 4 _).new (by omega) 5 _).new (by omega) 6 _).new (by omega) 7 _).new (by omega) 8 _
  · exact grown_new (grown_new (grown_new (gset6 h.gr (Nat.le_refl _) _ _ _ _ _ _) (Nat.le_refl _) 6 _) (Nat.le_refl _) 7 _) (Nat.le_refl _) 8 _
end RuleD
theorem own_form {W : World} {base : Nat} {e : TypeId} {sz : Nat} {v : Value} {n : Nat} {xs : List Value} (h : W.ownsRow base e sz v n xs) : ∃ A m c, v = .slice A m c := by
  rcases h.2 with ⟨hv, _⟩ | ⟨tb, cap, cur, hv, _⟩
  · exact ⟨_, _, _, hv⟩
  · exact ⟨_, _, _, hv⟩
def cellLen (W : World) (a : Addr) : Nat := match W.cell? a with
  | some v => sliceLen v
  | none => 0
set_option maxHeartbeats 8000000 in
set_option maxRecDepth 100000 in
/-- Its calls have been read, the walk behind them. -/
theorem rd6_rule {S : Src} (n : Nat) (w : World) (b : Nat) (A : Option Addr) (cap : Nat) (r : Rd) (hJ : J S r) (hd : r.deep = 0) (h : RdAt w b A cap S r) (cs : List (ByteArray × Nat)) (rc : Rd) (yx : Ex) (ry : Rd)
    (h1 : callsS S n [] r = some (cs, rc)) (h2 : whenS S n rc = some (yx, ry)) (vk : Int) (vn : Nat) (hv : verdT S (ry.wantR S 2 bDo) = (vk, vn)) :
    Calls Tryz.prog 41 #[.pointer (some ⟨b, 0, none⟩)] w fun e w' => ∃ v, e = .returned v ∧ RuP w.heap.size ⟨cs, yx, (vk, vn)⟩ v w' ∧ RdAt w' b A cap S ((verdR S (ry.wantR S 2 bDo)).wantR S 4 bSemi) ∧ w.grownBy w' (some b) := by
  have hlt := h.row.lt
  have hsz := h.size
  have gC := goes_calls n [] r _ hJ h1
  have gW := goes_when gC.j h2
  have gD := goes_want gW.j 2 (by decide) bDo
  have gV := goes_verd gD.j
  have gK := goes_kind gD.j 2 (by decide)
  have hle1 := gW.j.le
  have hle2 := gD.j.le
  have hle3 := gV.j.le
  have hle4 := gK.j.le
  simp only at hle1 hle2 hle3 hle4
  have HDo : Hid (∀ W, RdAt W b A cap S ry → Calls Tryz.prog 35 #[.pointer (some ⟨b, 0, none⟩), .int .i64 2, .string ⟨#[100, 111]⟩] W (RdP W b A cap S (.tuple #[]) (ry.wantR S 2 bDo))) := Lib.hid (fun W hW => rd6_want W b A cap S ry hW 2 ⟨#[100, 111]⟩ (by omega))
  have hV := fun W hW => rd6_verdict W b A cap S (ry.wantR S 2 bDo) hW (by omega) (by omega)
  rw [hv] at hV
  have HV := Lib.hid (show ∀ W, RdAt W b A cap S (ry.wantR S 2 bDo) → Calls Tryz.prog 37 #[.pointer (some ⟨b, 0, none⟩)] W (RdP W b A cap S (.agg #[.int .i64 vk, .int .u64 (vn : Int)]) (verdR S (ry.wantR S 2 bDo))) from hV)
  have HSe : Hid (∀ W, RdAt W b A cap S (verdR S (ry.wantR S 2 bDo)) → Calls Tryz.prog 35 #[.pointer (some ⟨b, 0, none⟩), .int .i64 4, .string ⟨#[59]⟩] W (RdP W b A cap S (.tuple #[]) ((verdR S (ry.wantR S 2 bDo)).wantR S 4 bSemi))) := Lib.hid (fun W hW => rd6_want W b A cap S (verdR S (ry.wantR S 2 bDo)) hW 4 ⟨#[59]⟩ (by omega))
  have hIw : ∀ W, RdAt W b A cap S rc → Calls Tryz.prog 39 #[.pointer (some ⟨b, 0, none⟩), .int .i64 2, .string ⟨#[119, 104, 101, 110]⟩] W (RdP W b A cap S (.bool (rc.isB S 2 bWhen)) (rc.isR S 2 bWhen)) := fun W hW => rd6_is W b A cap S rc hW 2 ⟨#[119, 104, 101, 110]⟩ (by have := gC.j.le; simp only at this; omega)
  have hE := fun (y : Ex × Rd) (W : World) (hj : J S (rc.isR S 2 bWhen)) (hdd : (rc.isR S 2 bWhen).deep = 0) hW (hy : exprN S n (rc.isR S 2 bWhen) = some y) => rd6_exprN (S := S) n W b A cap (rc.isR S 2 bWhen) y hj (by omega) (by omega) hW hy
  have gI := goes_is gC.j 2 (by decide) bWhen
  have hdc : (rc.isR S 2 bWhen).deep = 0 := by rw [gI.deep, gC.deep]; exact hd
  have HCall := Lib.hid (fun (q : Rd) (hq : J S q) W hW => rd6_call W b A cap S q hW (by have := hq.le; omega))
  have HIsC : Hid (∀ (q : Rd) (hq : J S q) W, RdAt W b A cap S q → Calls Tryz.prog 39 #[.pointer (some ⟨b, 0, none⟩), .int .i64 4, .string ⟨#[44]⟩] W (RdP W b A cap S (.bool (q.isB S 4 bComma)) (q.isR S 4 bComma))) := Lib.hid (fun (q : Rd) (hq : J S q) W hW => rd6_is W b A cap S q hW 4 ⟨#[44]⟩ (by have := hq.le; omega))
  have HW2 := Lib.hid h2
  unfold whenS at h2
  clear hV hv hle1 hle2 hle3 hle4 gK
  generalize (verdR S (ry.wantR S 2 bDo)).wantR S 4 bSemi = rz at HSe ⊢
  generalize verdR S (ry.wantR S 2 bDo) = rv at HSe HV
  generalize ry.wantR S 2 bDo = rd at HDo HV
  clear gD gV gW
  have HWh : Hid ((rc.isB S 2 bWhen = true ∧ ∀ W, RdAt W b A cap S (rc.isR S 2 bWhen) → Calls Tryz.prog 42 #[.pointer (some ⟨b, 0, none⟩)] W (ExR W b A cap S (yx, ry))) ∨ (rc.isB S 2 bWhen = false ∧ yx = .plain 1 ∧ ry = rc.isR S 2 bWhen)) := Lib.hid (by
    by_cases hb : rc.isB S 2 bWhen = true
    · rw [if_pos hb] at h2
      exact .inl ⟨hb, fun W hW => hE _ W gI.j hdc hW h2⟩
    · rw [if_neg hb] at h2
      injection h2 with h2; injection h2 with e1 e2
      exact .inr ⟨by cases hq : rc.isB S 2 bWhen with
        | true => exact absurd hq hb
        | false => rfl, e1.symm, e2.symm⟩)
  have HIw := Lib.hid hIw
  clear h2 hE gI hdc hIw HW2
  have HR0 := Lib.hid (World.alloc_heap_new w (ruO (.slice none 0 0) 0 (.slice none 0 0) 0 0 0 0 0 0))
  have HI : Hid (CallsD w ((w.alloc (ruO (.slice none 0 0) 0 (.slice none 0 0) 0 0 0 0 0 0)).alloc (ruO (.slice none 0 0) 1 (.slice none 0 0) 0 0 0 0 0 0)) b A cap S r [] (.slice none 0 0)) := Lib.hid
    ⟨(h.below (lbox w _)).below (lbox _ _), grown_trans (grown_of_below (lbox w _) (some b)) (grown_of_below (lbox _ _) (some b)), hlt, (by
      have := World.alloc_heap_new (w.alloc (ruO (.slice none 0 0) 0 (.slice none 0 0) 0 0 0 0 0 0)) (ruO (.slice none 0 0) 1 (.slice none 0 0) 0 0 0 0 0 0)
      simpa using this), kept_alloc HR0.out _, World.ownsRow_nil _ _ _ _⟩
  have HJ := Lib.hid (And.intro hJ h1)
  clear h hJ h1 HR0
  obtain ⟨i8, hi8, hz8, hs8, hb8⟩ := info_parts6 info_call
  go_enter Tryz.func41, Tryz.ntmps41
  go_wp2
  go_loopw [4] (fun _ wr => ∃ l v m rr, callsS S m l rr = some (cs, rc) ∧ Goes S r rr ∧ l.length ≤ rr.at_ ∧ CallsD w wr b A cap S rr l v) (fun _ wr => S.toks.length + 3 - cellLen wr ⟨w.heap.size + 1, 0, none⟩)
  case atStart => exact ⟨_, _, _, _, HJ.out.2, .refl HJ.out.1, Nat.zero_le _, HI.out⟩
  case round =>
    obtain ⟨l, v, m, rr, hrest, hgo, hll, hT⟩ := hrel
    obtain ⟨m, rfl⟩ : ∃ m', m = m' + 1 := ⟨m - 1, by
      rcases m with _ | m
      · cases hrest
      · rfl⟩
    have HT := Lib.hid hT
    have HCL : Hid (cellLen wr ⟨w.heap.size + 1, 0, none⟩ = l.length) := Lib.hid (by
      have h0 : wr.cell? ⟨w.heap.size + 1, 0, none⟩ = some v := cell6 HT.out.box 0 rfl
      unfold cellLen
      rw [h0]
      exact own_len HT.out.own)
    have gA := goes_call hgo.j
    have gB := goes_is gA.j 4 (by decide) bComma
    have hjl := hgo.j.le
    have HC := Lib.hid (HCall.out rr hgo.j)
    have hIs := HIsC.out (callR S rr) gA.j
    have hln : l.length ≤ 70000 := by omega
    unfold callsS at hrest
    clear HI HJ hT
    by_cases hb : (callR S rr).isB S 4 bComma = true
    · rw [if_pos hb] at hrest
      have hon := is_on (S := S) (k := 4) (by decide) hb
      have HRS := Lib.hid hrest
      have HJ2 := Lib.hid ((hgo.trans gA).trans gB)
      have HJ2 : Hid (Goes S r ((callR S rr).isR S 4 bComma) ∧ J S ((callR S rr).isR S 4 bComma)) := Lib.hid ⟨HJ2.out, HJ2.out.j⟩
      have HLL : Hid ((l ++ [callT S rr]).length ≤ ((callR S rr).isR S 4 bComma).at_) := Lib.hid (by rw [List.length_append]; simp only [List.length_cons, List.length_nil]; have := gA.at_; omega)
      rw [hb] at hIs
      have HIs := Lib.hid hIs
      clear hrest hb hon hgo gA gB hIs hll hjl
      generalize (callR S rr).isR S 4 bComma = ri at HIs HRS HJ2 HLL
      generalize callR S rr = ra at HC HIs
      go_wp2
      refine wp_region_held_drew (S := fun _ => True) (by kernel_rfl) trivial (fun _ => ?_)
      have HY : Hid (CallsD w wr.drew b A cap S rr l v) := Lib.hid (HT.out.drawn 1)
      clear HT
      generalize wr.drew = Y at HY ⊢
      have hby : Y.cell? ⟨w.heap.size + 1, 0, none⟩ = some v := cell6 HY.out.box 0 rfl
      refine wpAnyH_take (i := 0) (v := ?_) rfl (by kernel_rfl) (by kernel_rfl) (by kernel_rfl) (fun _ _ _ h => h) (Or.inl ⟨by rfl, ?_⟩) (by assumption) ?_
      rotate_left
      · intro wS hSw
        (skip)
        go_simp
        all_goals with_reducible rfl
      (try simp only [List.getElem_toArray, List.getElem_cons_zero, List.getElem_cons_succ, Act.put, List.setIfInBounds_toArray, List.set_cons_zero, List.set_cons_succ])
      refine wpAnyH_take (i := 2) (v := ?_) rfl (by kernel_rfl) (by kernel_rfl) (by kernel_rfl) (fun _ _ _ h => h) (Or.inl ⟨by rfl, ?_⟩) (by assumption) ?_
      rotate_left
      · intro wS hSw
        (skip)
        go_simp
        all_goals with_reducible rfl
      (try simp only [List.getElem_toArray, List.getElem_cons_zero, List.getElem_cons_succ, Act.put, List.setIfInBounds_toArray, List.set_cons_zero, List.set_cons_succ])
      refine wpAnyH_ready (rs := [1, 3]) (by kernel_rfl) (by simp) (AllReadyH.cons rfl (fun K hK => ?_) (AllReadyH.cons rfl (fun K hK => ?_) AllReadyH.nil))
      · go_simp
        refine hK.out _ _ trivial (fun _ => ?_)
        clear hK K
        (try simp only [Act.put, List.setIfInBounds_toArray, List.set_cons_zero, List.set_cons_succ, List.getElem_toArray, List.getElem_cons_zero, List.getElem_cons_succ])
        refine held_one (i := 3) (by kernel_rfl) rfl (fun K hK => ?_)
        go_simp
        go_at_call 72
        refine (HC.out _ HY.out.rd).mono ?_
        rintro e w1 ⟨rfl, hr1, hg1⟩
        have HZ := Lib.hid (HY.out.call hr1 hg1)
        have hbz : w1.cell? ⟨w.heap.size + 1, 0, none⟩ = some v := cell6 HZ.out.box 0 rfl
        refine hK.out _ _ trivial (fun _ => ?_)
        clear hK K hr1 hg1
        (try simp only [Act.put, List.setIfInBounds_toArray, List.set_cons_zero, List.set_cons_succ, List.getElem_toArray, List.getElem_cons_zero, List.getElem_cons_succ])
        refine held_one (i := 4) (by kernel_rfl) rfl (fun K hK => ?_)
        go_simp
        refine hK.out _ _ trivial (fun _ => ?_)
        clear hK K
        (try simp only [Act.put, List.setIfInBounds_toArray, List.set_cons_zero, List.set_cons_succ, List.getElem_toArray, List.getElem_cons_zero, List.getElem_cons_succ])
        refine held_one (i := 5) (by kernel_rfl) rfl (fun K hK => ?_)
        rw [if_pos (by kernel_rfl)]
        refine oper_append6 (.tmp 9) (.tmp 12) 86 rfl (w.heap.size + 2) 92 i8 (.agg #[.string ⟨#[]⟩, .int .u64 0]) 2 24 Tryz.underlying86 hi8 hz8 hs8 hb8 rfl (by decide) v l.length (callsC l) rfl (own_below HZ.out.own (lbox w1 _)) ⟨w1.heap.size, 0, none⟩ 1 1 (callC (callT S rr)) rfl rfl (call_cells _ _ rfl _) call_one (by unfold maxLen; omega) (by omega) (by have := HZ.out.size; simp; omega) ?_
        intro v' wd ho hg hv
        obtain ⟨A', n', c', rfl⟩ := own_form ho
        have HW := Lib.hid (HZ.out.turn (x := callT S rr) ho hg hv)
        refine hK.out _ _ trivial (fun _ => ?_)
        clear hK K ho hg hv
        (try simp only [Act.put, List.setIfInBounds_toArray, List.set_cons_zero, List.set_cons_succ, List.getElem_toArray, List.getElem_cons_zero, List.getElem_cons_succ])
        have hbE := HW.out.2
        have hlE : w.heap.size + 1 < wd.heap.size := (Array.getElem?_eq_some_iff.1 hbE).1
        have q0 := cell6 hbE 0 rfl
        have q0f := frozen6 hbE 0
        refine wpAnyH_take (i := 6) (v := ?_) rfl (by kernel_rfl) (by kernel_rfl) (by kernel_rfl) (fun _ _ _ h => h) (Or.inl ⟨by rfl, ?_⟩) (by assumption) ?_
        rotate_left
        · intro wS hSw
          (skip)
          go_simp
          all_goals with_reducible rfl
        (try simp only [List.getElem_toArray, List.getElem_cons_zero, List.getElem_cons_succ, Act.put, List.setIfInBounds_toArray, List.set_cons_zero, List.set_cons_succ])
        refine held_one (i := 7) (by kernel_rfl) rfl (fun K hK => ?_)
        go_simp
        refine hK.out _ _ trivial (fun _ => ?_)
        clear hK K hbE hlE q0 q0f
        refine wpAnyH_done (by kernel_rfl) ?_ _
        have HX := Lib.hid HW.out.1
        clear HW
        generalize wd.setCell ⟨w.heap.size + 1, 0, none⟩ (.slice A' n' c') = wx at HX ⊢
        go_wp2_with (go_at_call 39; (with_reducible refine (HIs.out _ HX.out.rd).mono ?_); rintro e w2 ⟨rfl, hr2, hg2⟩; have HN := Lib.hid (HX.out.call hr2 hg2); clear hr2 hg2)
        exact ⟨⟨_, _, _, _, HRS.out, HJ2.out.1, HLL.out, HN.out⟩, by
          have h0 : w2.cell? ⟨w.heap.size + 1, 0, none⟩ = some (.slice A' n' c') := cell6 HN.out.box 0 rfl
          have h1 := own_len HN.out.own
          have h2 := HLL.out
          have h3 := HJ2.out.2.le
          rw [HCL.out]
          unfold cellLen
          rw [h0]
          simp only [h1]
          rw [List.length_append] at h2 ⊢
          simp only [List.length_cons, List.length_nil] at h2 ⊢
          omega⟩
      · go_simp
        go_at_call 72
        refine (HC.out _ HY.out.rd).mono ?_
        rintro e w1 ⟨rfl, hr1, hg1⟩
        have HZ := Lib.hid (HY.out.call hr1 hg1)
        have hbz : w1.cell? ⟨w.heap.size + 1, 0, none⟩ = some v := cell6 HZ.out.box 0 rfl
        refine hK.out _ _ trivial (fun _ => ?_)
        clear hK K hr1 hg1
        (try simp only [Act.put, List.setIfInBounds_toArray, List.set_cons_zero, List.set_cons_succ, List.getElem_toArray, List.getElem_cons_zero, List.getElem_cons_succ])
        refine wpAnyH_ready (rs := [1, 4]) (by kernel_rfl) (by simp) (AllReadyH.cons rfl (fun K hK => ?_) (AllReadyH.cons rfl (fun K hK => ?_) AllReadyH.nil))
        · go_simp
          refine hK.out _ _ trivial (fun _ => ?_)
          clear hK K
          (try simp only [Act.put, List.setIfInBounds_toArray, List.set_cons_zero, List.set_cons_succ, List.getElem_toArray, List.getElem_cons_zero, List.getElem_cons_succ])
          refine held_one (i := 4) (by kernel_rfl) rfl (fun K hK => ?_)
          go_simp
          refine hK.out _ _ trivial (fun _ => ?_)
          clear hK K
          (try simp only [Act.put, List.setIfInBounds_toArray, List.set_cons_zero, List.set_cons_succ, List.getElem_toArray, List.getElem_cons_zero, List.getElem_cons_succ])
          refine held_one (i := 5) (by kernel_rfl) rfl (fun K hK => ?_)
          rw [if_pos (by kernel_rfl)]
          refine oper_append6 (.tmp 9) (.tmp 12) 86 rfl (w.heap.size + 2) 92 i8 (.agg #[.string ⟨#[]⟩, .int .u64 0]) 2 24 Tryz.underlying86 hi8 hz8 hs8 hb8 rfl (by decide) v l.length (callsC l) rfl (own_below HZ.out.own (lbox w1 _)) ⟨w1.heap.size, 0, none⟩ 1 1 (callC (callT S rr)) rfl rfl (call_cells _ _ rfl _) call_one (by unfold maxLen; omega) (by omega) (by have := HZ.out.size; simp; omega) ?_
          intro v' wd ho hg hv
          obtain ⟨A', n', c', rfl⟩ := own_form ho
          have HW := Lib.hid (HZ.out.turn (x := callT S rr) ho hg hv)
          refine hK.out _ _ trivial (fun _ => ?_)
          clear hK K ho hg hv
          (try simp only [Act.put, List.setIfInBounds_toArray, List.set_cons_zero, List.set_cons_succ, List.getElem_toArray, List.getElem_cons_zero, List.getElem_cons_succ])
          have hbE := HW.out.2
          have hlE : w.heap.size + 1 < wd.heap.size := (Array.getElem?_eq_some_iff.1 hbE).1
          have q0 := cell6 hbE 0 rfl
          have q0f := frozen6 hbE 0
          refine wpAnyH_take (i := 6) (v := ?_) rfl (by kernel_rfl) (by kernel_rfl) (by kernel_rfl) (fun _ _ _ h => h) (Or.inl ⟨by rfl, ?_⟩) (by assumption) ?_
          rotate_left
          · intro wS hSw
            (skip)
            go_simp
            all_goals with_reducible rfl
          (try simp only [List.getElem_toArray, List.getElem_cons_zero, List.getElem_cons_succ, Act.put, List.setIfInBounds_toArray, List.set_cons_zero, List.set_cons_succ])
          refine held_one (i := 7) (by kernel_rfl) rfl (fun K hK => ?_)
          go_simp
          refine hK.out _ _ trivial (fun _ => ?_)
          clear hK K hbE hlE q0 q0f
          refine wpAnyH_done (by kernel_rfl) ?_ _
          have HX := Lib.hid HW.out.1
          clear HW
          generalize wd.setCell ⟨w.heap.size + 1, 0, none⟩ (.slice A' n' c') = wx at HX ⊢
          go_wp2_with (go_at_call 39; (with_reducible refine (HIs.out _ HX.out.rd).mono ?_); rintro e w2 ⟨rfl, hr2, hg2⟩; have HN := Lib.hid (HX.out.call hr2 hg2); clear hr2 hg2)
          exact ⟨⟨_, _, _, _, HRS.out, HJ2.out.1, HLL.out, HN.out⟩, by
            have h0 : w2.cell? ⟨w.heap.size + 1, 0, none⟩ = some (.slice A' n' c') := cell6 HN.out.box 0 rfl
            have h1 := own_len HN.out.own
            have h2 := HLL.out
            have h3 := HJ2.out.2.le
            rw [HCL.out]
            unfold cellLen
            rw [h0]
            simp only [h1]
            rw [List.length_append] at h2 ⊢
            simp only [List.length_cons, List.length_nil] at h2 ⊢
            omega⟩
        · go_simp
          refine hK.out _ _ trivial (fun _ => ?_)
          clear hK K
          (try simp only [Act.put, List.setIfInBounds_toArray, List.set_cons_zero, List.set_cons_succ, List.getElem_toArray, List.getElem_cons_zero, List.getElem_cons_succ])
          have hba : ∀ o, (w1.alloc o).cell? ⟨w.heap.size + 1, 0, none⟩ = some v := fun o => cell6 (kept_alloc HZ.out.box o) 0 rfl
          refine held_one (i := 1) (by kernel_rfl) rfl (fun K hK => ?_)
          go_simp
          refine hK.out _ _ trivial (fun _ => ?_)
          clear hK K
          (try simp only [Act.put, List.setIfInBounds_toArray, List.set_cons_zero, List.set_cons_succ, List.getElem_toArray, List.getElem_cons_zero, List.getElem_cons_succ])
          refine held_one (i := 5) (by kernel_rfl) rfl (fun K hK => ?_)
          rw [if_pos (by kernel_rfl)]
          refine oper_append6 (.tmp 9) (.tmp 12) 86 rfl (w.heap.size + 2) 92 i8 (.agg #[.string ⟨#[]⟩, .int .u64 0]) 2 24 Tryz.underlying86 hi8 hz8 hs8 hb8 rfl (by decide) v l.length (callsC l) rfl (own_below HZ.out.own (lbox w1 _)) ⟨w1.heap.size, 0, none⟩ 1 1 (callC (callT S rr)) rfl rfl (call_cells _ _ rfl _) call_one (by unfold maxLen; omega) (by omega) (by have := HZ.out.size; simp; omega) ?_
          intro v' wd ho hg hv
          obtain ⟨A', n', c', rfl⟩ := own_form ho
          have HW := Lib.hid (HZ.out.turn (x := callT S rr) ho hg hv)
          refine hK.out _ _ trivial (fun _ => ?_)
          clear hK K ho hg hv
          (try simp only [Act.put, List.setIfInBounds_toArray, List.set_cons_zero, List.set_cons_succ, List.getElem_toArray, List.getElem_cons_zero, List.getElem_cons_succ])
          have hbE := HW.out.2
          have hlE : w.heap.size + 1 < wd.heap.size := (Array.getElem?_eq_some_iff.1 hbE).1
          have q0 := cell6 hbE 0 rfl
          have q0f := frozen6 hbE 0
          refine wpAnyH_take (i := 6) (v := ?_) rfl (by kernel_rfl) (by kernel_rfl) (by kernel_rfl) (fun _ _ _ h => h) (Or.inl ⟨by rfl, ?_⟩) (by assumption) ?_
          rotate_left
          · intro wS hSw
            (skip)
            go_simp
            all_goals with_reducible rfl
          (try simp only [List.getElem_toArray, List.getElem_cons_zero, List.getElem_cons_succ, Act.put, List.setIfInBounds_toArray, List.set_cons_zero, List.set_cons_succ])
          refine held_one (i := 7) (by kernel_rfl) rfl (fun K hK => ?_)
          go_simp
          refine hK.out _ _ trivial (fun _ => ?_)
          clear hK K hbE hlE q0 q0f
          refine wpAnyH_done (by kernel_rfl) ?_ _
          have HX := Lib.hid HW.out.1
          clear HW
          generalize wd.setCell ⟨w.heap.size + 1, 0, none⟩ (.slice A' n' c') = wx at HX ⊢
          go_wp2_with (go_at_call 39; (with_reducible refine (HIs.out _ HX.out.rd).mono ?_); rintro e w2 ⟨rfl, hr2, hg2⟩; have HN := Lib.hid (HX.out.call hr2 hg2); clear hr2 hg2)
          exact ⟨⟨_, _, _, _, HRS.out, HJ2.out.1, HLL.out, HN.out⟩, by
            have h0 : w2.cell? ⟨w.heap.size + 1, 0, none⟩ = some (.slice A' n' c') := cell6 HN.out.box 0 rfl
            have h1 := own_len HN.out.own
            have h2 := HLL.out
            have h3 := HJ2.out.2.le
            rw [HCL.out]
            unfold cellLen
            rw [h0]
            simp only [h1]
            rw [List.length_append] at h2 ⊢
            simp only [List.length_cons, List.length_nil] at h2 ⊢
            omega⟩
    · have hbf : (callR S rr).isB S 4 bComma = false := by cases hq : (callR S rr).isB S 4 bComma with
        | true => exact absurd hq hb
        | false => rfl
      rw [if_neg hb] at hrest
      injection hrest with hrest
      injection hrest with e1 e2
      have HP : Hid (0 < cs.length) := Lib.hid (by rw [← e1]; simp)
      have E1 := Lib.hid e1
      clear e1
      subst e2
      rw [hbf] at hIs
      have HIs := Lib.hid hIs
      clear hb hbf hgo gA gB hIs hll hjl
      generalize (callR S rr).isR S 4 bComma = rc at HIs HIw HWh
      generalize callR S rr = ra at HC HIs
      rcases HWh.out with ⟨hw, hE⟩ | ⟨hw, rfl, rfl⟩
      · rw [hw] at HIw
        have HE := Lib.hid hE
        clear hE hw HWh
        go_wp2
        refine wp_region_held_drew (S := fun _ => True) (by kernel_rfl) trivial (fun _ => ?_)
        have HY : Hid (CallsD w wr.drew b A cap S rr l v) := Lib.hid (HT.out.drawn 1)
        clear HT
        generalize wr.drew = Y at HY ⊢
        have hby : Y.cell? ⟨w.heap.size + 1, 0, none⟩ = some v := cell6 HY.out.box 0 rfl
        refine wpAnyH_take (i := 0) (v := ?_) rfl (by kernel_rfl) (by kernel_rfl) (by kernel_rfl) (fun _ _ _ h => h) (Or.inl ⟨by rfl, ?_⟩) (by assumption) ?_
        rotate_left
        · intro wS hSw
          (skip)
          go_simp
          all_goals with_reducible rfl
        (try simp only [List.getElem_toArray, List.getElem_cons_zero, List.getElem_cons_succ, Act.put, List.setIfInBounds_toArray, List.set_cons_zero, List.set_cons_succ])
        refine wpAnyH_take (i := 2) (v := ?_) rfl (by kernel_rfl) (by kernel_rfl) (by kernel_rfl) (fun _ _ _ h => h) (Or.inl ⟨by rfl, ?_⟩) (by assumption) ?_
        rotate_left
        · intro wS hSw
          (skip)
          go_simp
          all_goals with_reducible rfl
        (try simp only [List.getElem_toArray, List.getElem_cons_zero, List.getElem_cons_succ, Act.put, List.setIfInBounds_toArray, List.set_cons_zero, List.set_cons_succ])
        refine wpAnyH_ready (rs := [1, 3]) (by kernel_rfl) (by simp) (AllReadyH.cons rfl (fun K hK => ?_) (AllReadyH.cons rfl (fun K hK => ?_) AllReadyH.nil))
        · go_simp
          refine hK.out _ _ trivial (fun _ => ?_)
          clear hK K
          (try simp only [Act.put, List.setIfInBounds_toArray, List.set_cons_zero, List.set_cons_succ, List.getElem_toArray, List.getElem_cons_zero, List.getElem_cons_succ])
          refine held_one (i := 3) (by kernel_rfl) rfl (fun K hK => ?_)
          go_simp
          go_at_call 72
          refine (HC.out _ HY.out.rd).mono ?_
          rintro e w1 ⟨rfl, hr1, hg1⟩
          have HZ := Lib.hid (HY.out.call hr1 hg1)
          have hbz : w1.cell? ⟨w.heap.size + 1, 0, none⟩ = some v := cell6 HZ.out.box 0 rfl
          refine hK.out _ _ trivial (fun _ => ?_)
          clear hK K hr1 hg1
          (try simp only [Act.put, List.setIfInBounds_toArray, List.set_cons_zero, List.set_cons_succ, List.getElem_toArray, List.getElem_cons_zero, List.getElem_cons_succ])
          refine held_one (i := 4) (by kernel_rfl) rfl (fun K hK => ?_)
          go_simp
          refine hK.out _ _ trivial (fun _ => ?_)
          clear hK K
          (try simp only [Act.put, List.setIfInBounds_toArray, List.set_cons_zero, List.set_cons_succ, List.getElem_toArray, List.getElem_cons_zero, List.getElem_cons_succ])
          refine held_one (i := 5) (by kernel_rfl) rfl (fun K hK => ?_)
          rw [if_pos (by kernel_rfl)]
          refine oper_append6 (.tmp 9) (.tmp 12) 86 rfl (w.heap.size + 2) 92 i8 (.agg #[.string ⟨#[]⟩, .int .u64 0]) 2 24 Tryz.underlying86 hi8 hz8 hs8 hb8 rfl (by decide) v l.length (callsC l) rfl (own_below HZ.out.own (lbox w1 _)) ⟨w1.heap.size, 0, none⟩ 1 1 (callC (callT S rr)) rfl rfl (call_cells _ _ rfl _) call_one (by unfold maxLen; omega) (by omega) (by have := HZ.out.size; simp; omega) ?_
          intro v' wd ho hg hv
          obtain ⟨A', n', c', rfl⟩ := own_form ho
          have HW := Lib.hid (HZ.out.turn (x := callT S rr) ho hg hv)
          refine hK.out _ _ trivial (fun _ => ?_)
          clear hK K ho hg hv
          (try simp only [Act.put, List.setIfInBounds_toArray, List.set_cons_zero, List.set_cons_succ, List.getElem_toArray, List.getElem_cons_zero, List.getElem_cons_succ])
          have hbE := HW.out.2
          have hlE : w.heap.size + 1 < wd.heap.size := (Array.getElem?_eq_some_iff.1 hbE).1
          have q0 := cell6 hbE 0 rfl
          have q0f := frozen6 hbE 0
          refine wpAnyH_take (i := 6) (v := ?_) rfl (by kernel_rfl) (by kernel_rfl) (by kernel_rfl) (fun _ _ _ h => h) (Or.inl ⟨by rfl, ?_⟩) (by assumption) ?_
          rotate_left
          · intro wS hSw
            (skip)
            go_simp
            all_goals with_reducible rfl
          (try simp only [List.getElem_toArray, List.getElem_cons_zero, List.getElem_cons_succ, Act.put, List.setIfInBounds_toArray, List.set_cons_zero, List.set_cons_succ])
          refine held_one (i := 7) (by kernel_rfl) rfl (fun K hK => ?_)
          go_simp
          refine hK.out _ _ trivial (fun _ => ?_)
          clear hK K hbE hlE q0 q0f
          refine wpAnyH_done (by kernel_rfl) ?_ _
          have HX1 := HW.out.1
          rw [E1.out] at HX1
          have HX := Lib.hid HX1
          clear HX1
          clear HW
          generalize wd.setCell ⟨w.heap.size + 1, 0, none⟩ (.slice A' n' c') = wx at HX ⊢
          go_wp2_with (first
            | (go_at_call 39; (with_reducible refine (HIs.out _ HX.out.rd).mono ?_); rintro e w2 ⟨rfl, hr2, hg2⟩; have HN := Lib.hid (HX.out.call hr2 hg2); obtain ⟨tb, capc, hvv, hRD⟩ := HN.out.done HP.out; have HVV := Lib.hid hvv; have H1 := Lib.hid hRD; clear hr2 hg2 hvv hRD HX)
            | (go_at_call 39; (with_reducible refine (HIw.out _ H1.out.rd).mono ?_); rintro e w4 ⟨rfl, hr4, hg4⟩; have H2 := Lib.hid (H1.out.call hr4 hg4); clear hr4 hg4)
            | (go_at_call 42; (with_reducible refine (HE.out _ H2.out.rd).mono ?_); rintro e w3 ⟨Ax, cx, rfl, hx3, hr3, hg3⟩; have H3 := Lib.hid (H2.out.call hr3 hg3); have HX3 : Hid (ExIn w3 (fun k => w.heap.size + 2 ≤ k) yx Ax cx) := Lib.hid (hx3.keep (Nat.le_refl _) (fun k hk => by have := H2.out.size; omega) (fun _ _ _ => rfl)); have hE3 := H3.out.box; have hl3 : w.heap.size + 1 < w3.heap.size := (Array.getElem?_eq_some_iff.1 hE3).1; have e1 := cell6 hE3 1 rfl; have e2 := cell6 hE3 2 rfl; have e3 := cell6 hE3 3 rfl; have e4 := cell6 hE3 4 rfl; have e5 := cell6 hE3 5 rfl; have e6 := cell6 hE3 6 rfl; have g1 := frozen6 hE3 1; have g2 := frozen6 hE3 2; have g3 := frozen6 hE3 3; have g4 := frozen6 hE3 4; have g5 := frozen6 hE3 5; have g6 := frozen6 hE3 6; have H4 := Lib.hid (H3.out.setEx HX3.out); clear hx3 hr3 hg3 hE3)
            | (go_at_call 35; (with_reducible refine (HDo.out _ H4.out.rd).mono ?_); rintro e w5 ⟨rfl, hr5, hg5⟩; have H5 := Lib.hid (H4.out.call hr5 hg5); clear hr5 hg5)
            | (go_at_call 37; (with_reducible refine (HV.out _ H5.out.rd).mono ?_); rintro e w6 ⟨rfl, hr6, hg6⟩; have H6 := Lib.hid (H5.out.call hr6 hg6); have hE6 := H6.out.box; have hl6 : w.heap.size + 1 < w6.heap.size := (Array.getElem?_eq_some_iff.1 hE6).1; have e7 := cell6 hE6 7 rfl; have e8 := cell6 hE6 8 rfl; have g7 := frozen6 hE6 7; have g8 := frozen6 hE6 8; have H7 := Lib.hid (H6.out.setVerd (k' := vk) (n' := (vn : Int))); clear hr6 hg6 hE6)
            | (go_at_call 35; (with_reducible refine (HSe.out _ H7.out.rd).mono ?_); rintro e w8 ⟨rfl, hr8, hg8⟩; have H8 := Lib.hid (H7.out.call hr8 hg8); have hE8 := H8.out.box; have hR8 := H8.out.res; have hlR : w.heap.size < w8.heap.size := (Array.getElem?_eq_some_iff.1 hR8).1; have i0 := cell6 hE8 0 rfl; have i1 := cell6 hE8 1 rfl; have i2 := cell6 hE8 2 rfl; have i3 := cell6 hE8 3 rfl; have i4 := cell6 hE8 4 rfl; have i5 := cell6 hE8 5 rfl; have i6 := cell6 hE8 6 rfl; have i7 := cell6 hE8 7 rfl; have i8 := cell6 hE8 8 rfl; have u0 := cell6 hR8 0 rfl; have u1 := cell6 hR8 1 rfl; have u2 := cell6 hR8 2 rfl; have u3 := cell6 hR8 3 rfl; have u4 := cell6 hR8 4 rfl; have u5 := cell6 hR8 5 rfl; have u6 := cell6 hR8 6 rfl; have u7 := cell6 hR8 7 rfl; have u8 := cell6 hR8 8 rfl; have y0 := frozen6 hR8 0; have y1 := frozen6 hR8 1; have y2 := frozen6 hR8 2; have y3 := frozen6 hR8 3; have y4 := frozen6 hR8 4; have y5 := frozen6 hR8 5; have y6 := frozen6 hR8 6; have y7 := frozen6 hR8 7; have y8 := frozen6 hR8 8; clear hr8 hg8 hE8 hR8))
          exact bodyPost_ret (v := ruV ⟨cs, yx, (vk, vn)⟩ tb capc Ax cx) (by simp [results, Tryz.results41, go_sem, u0, u1, u2, u3, u4, u5, u6, u7, u8, World.cell?_setCell_same']) rfl ⟨_, rfl, H8.out.done⟩
        · go_simp
          go_at_call 72
          refine (HC.out _ HY.out.rd).mono ?_
          rintro e w1 ⟨rfl, hr1, hg1⟩
          have HZ := Lib.hid (HY.out.call hr1 hg1)
          have hbz : w1.cell? ⟨w.heap.size + 1, 0, none⟩ = some v := cell6 HZ.out.box 0 rfl
          refine hK.out _ _ trivial (fun _ => ?_)
          clear hK K hr1 hg1
          (try simp only [Act.put, List.setIfInBounds_toArray, List.set_cons_zero, List.set_cons_succ, List.getElem_toArray, List.getElem_cons_zero, List.getElem_cons_succ])
          refine wpAnyH_ready (rs := [1, 4]) (by kernel_rfl) (by simp) (AllReadyH.cons rfl (fun K hK => ?_) (AllReadyH.cons rfl (fun K hK => ?_) AllReadyH.nil))
          · go_simp
            refine hK.out _ _ trivial (fun _ => ?_)
            clear hK K
            (try simp only [Act.put, List.setIfInBounds_toArray, List.set_cons_zero, List.set_cons_succ, List.getElem_toArray, List.getElem_cons_zero, List.getElem_cons_succ])
            refine held_one (i := 4) (by kernel_rfl) rfl (fun K hK => ?_)
            go_simp
            refine hK.out _ _ trivial (fun _ => ?_)
            clear hK K
            (try simp only [Act.put, List.setIfInBounds_toArray, List.set_cons_zero, List.set_cons_succ, List.getElem_toArray, List.getElem_cons_zero, List.getElem_cons_succ])
            refine held_one (i := 5) (by kernel_rfl) rfl (fun K hK => ?_)
            rw [if_pos (by kernel_rfl)]
            refine oper_append6 (.tmp 9) (.tmp 12) 86 rfl (w.heap.size + 2) 92 i8 (.agg #[.string ⟨#[]⟩, .int .u64 0]) 2 24 Tryz.underlying86 hi8 hz8 hs8 hb8 rfl (by decide) v l.length (callsC l) rfl (own_below HZ.out.own (lbox w1 _)) ⟨w1.heap.size, 0, none⟩ 1 1 (callC (callT S rr)) rfl rfl (call_cells _ _ rfl _) call_one (by unfold maxLen; omega) (by omega) (by have := HZ.out.size; simp; omega) ?_
            intro v' wd ho hg hv
            obtain ⟨A', n', c', rfl⟩ := own_form ho
            have HW := Lib.hid (HZ.out.turn (x := callT S rr) ho hg hv)
            refine hK.out _ _ trivial (fun _ => ?_)
            clear hK K ho hg hv
            (try simp only [Act.put, List.setIfInBounds_toArray, List.set_cons_zero, List.set_cons_succ, List.getElem_toArray, List.getElem_cons_zero, List.getElem_cons_succ])
            have hbE := HW.out.2
            have hlE : w.heap.size + 1 < wd.heap.size := (Array.getElem?_eq_some_iff.1 hbE).1
            have q0 := cell6 hbE 0 rfl
            have q0f := frozen6 hbE 0
            refine wpAnyH_take (i := 6) (v := ?_) rfl (by kernel_rfl) (by kernel_rfl) (by kernel_rfl) (fun _ _ _ h => h) (Or.inl ⟨by rfl, ?_⟩) (by assumption) ?_
            rotate_left
            · intro wS hSw
              (skip)
              go_simp
              all_goals with_reducible rfl
            (try simp only [List.getElem_toArray, List.getElem_cons_zero, List.getElem_cons_succ, Act.put, List.setIfInBounds_toArray, List.set_cons_zero, List.set_cons_succ])
            refine held_one (i := 7) (by kernel_rfl) rfl (fun K hK => ?_)
            go_simp
            refine hK.out _ _ trivial (fun _ => ?_)
            clear hK K hbE hlE q0 q0f
            refine wpAnyH_done (by kernel_rfl) ?_ _
            have HX1 := HW.out.1
            rw [E1.out] at HX1
            have HX := Lib.hid HX1
            clear HX1
            clear HW
            generalize wd.setCell ⟨w.heap.size + 1, 0, none⟩ (.slice A' n' c') = wx at HX ⊢
            go_wp2_with (first
              | (go_at_call 39; (with_reducible refine (HIs.out _ HX.out.rd).mono ?_); rintro e w2 ⟨rfl, hr2, hg2⟩; have HN := Lib.hid (HX.out.call hr2 hg2); obtain ⟨tb, capc, hvv, hRD⟩ := HN.out.done HP.out; have HVV := Lib.hid hvv; have H1 := Lib.hid hRD; clear hr2 hg2 hvv hRD HX)
              | (go_at_call 39; (with_reducible refine (HIw.out _ H1.out.rd).mono ?_); rintro e w4 ⟨rfl, hr4, hg4⟩; have H2 := Lib.hid (H1.out.call hr4 hg4); clear hr4 hg4)
              | (go_at_call 42; (with_reducible refine (HE.out _ H2.out.rd).mono ?_); rintro e w3 ⟨Ax, cx, rfl, hx3, hr3, hg3⟩; have H3 := Lib.hid (H2.out.call hr3 hg3); have HX3 : Hid (ExIn w3 (fun k => w.heap.size + 2 ≤ k) yx Ax cx) := Lib.hid (hx3.keep (Nat.le_refl _) (fun k hk => by have := H2.out.size; omega) (fun _ _ _ => rfl)); have hE3 := H3.out.box; have hl3 : w.heap.size + 1 < w3.heap.size := (Array.getElem?_eq_some_iff.1 hE3).1; have e1 := cell6 hE3 1 rfl; have e2 := cell6 hE3 2 rfl; have e3 := cell6 hE3 3 rfl; have e4 := cell6 hE3 4 rfl; have e5 := cell6 hE3 5 rfl; have e6 := cell6 hE3 6 rfl; have g1 := frozen6 hE3 1; have g2 := frozen6 hE3 2; have g3 := frozen6 hE3 3; have g4 := frozen6 hE3 4; have g5 := frozen6 hE3 5; have g6 := frozen6 hE3 6; have H4 := Lib.hid (H3.out.setEx HX3.out); clear hx3 hr3 hg3 hE3)
              | (go_at_call 35; (with_reducible refine (HDo.out _ H4.out.rd).mono ?_); rintro e w5 ⟨rfl, hr5, hg5⟩; have H5 := Lib.hid (H4.out.call hr5 hg5); clear hr5 hg5)
              | (go_at_call 37; (with_reducible refine (HV.out _ H5.out.rd).mono ?_); rintro e w6 ⟨rfl, hr6, hg6⟩; have H6 := Lib.hid (H5.out.call hr6 hg6); have hE6 := H6.out.box; have hl6 : w.heap.size + 1 < w6.heap.size := (Array.getElem?_eq_some_iff.1 hE6).1; have e7 := cell6 hE6 7 rfl; have e8 := cell6 hE6 8 rfl; have g7 := frozen6 hE6 7; have g8 := frozen6 hE6 8; have H7 := Lib.hid (H6.out.setVerd (k' := vk) (n' := (vn : Int))); clear hr6 hg6 hE6)
              | (go_at_call 35; (with_reducible refine (HSe.out _ H7.out.rd).mono ?_); rintro e w8 ⟨rfl, hr8, hg8⟩; have H8 := Lib.hid (H7.out.call hr8 hg8); have hE8 := H8.out.box; have hR8 := H8.out.res; have hlR : w.heap.size < w8.heap.size := (Array.getElem?_eq_some_iff.1 hR8).1; have i0 := cell6 hE8 0 rfl; have i1 := cell6 hE8 1 rfl; have i2 := cell6 hE8 2 rfl; have i3 := cell6 hE8 3 rfl; have i4 := cell6 hE8 4 rfl; have i5 := cell6 hE8 5 rfl; have i6 := cell6 hE8 6 rfl; have i7 := cell6 hE8 7 rfl; have i8 := cell6 hE8 8 rfl; have u0 := cell6 hR8 0 rfl; have u1 := cell6 hR8 1 rfl; have u2 := cell6 hR8 2 rfl; have u3 := cell6 hR8 3 rfl; have u4 := cell6 hR8 4 rfl; have u5 := cell6 hR8 5 rfl; have u6 := cell6 hR8 6 rfl; have u7 := cell6 hR8 7 rfl; have u8 := cell6 hR8 8 rfl; have y0 := frozen6 hR8 0; have y1 := frozen6 hR8 1; have y2 := frozen6 hR8 2; have y3 := frozen6 hR8 3; have y4 := frozen6 hR8 4; have y5 := frozen6 hR8 5; have y6 := frozen6 hR8 6; have y7 := frozen6 hR8 7; have y8 := frozen6 hR8 8; clear hr8 hg8 hE8 hR8))
            exact bodyPost_ret (v := ruV ⟨cs, yx, (vk, vn)⟩ tb capc Ax cx) (by simp [results, Tryz.results41, go_sem, u0, u1, u2, u3, u4, u5, u6, u7, u8, World.cell?_setCell_same']) rfl ⟨_, rfl, H8.out.done⟩
          · go_simp
            refine hK.out _ _ trivial (fun _ => ?_)
            clear hK K
            (try simp only [Act.put, List.setIfInBounds_toArray, List.set_cons_zero, List.set_cons_succ, List.getElem_toArray, List.getElem_cons_zero, List.getElem_cons_succ])
            have hba : ∀ o, (w1.alloc o).cell? ⟨w.heap.size + 1, 0, none⟩ = some v := fun o => cell6 (kept_alloc HZ.out.box o) 0 rfl
            refine held_one (i := 1) (by kernel_rfl) rfl (fun K hK => ?_)
            go_simp
            refine hK.out _ _ trivial (fun _ => ?_)
            clear hK K
            (try simp only [Act.put, List.setIfInBounds_toArray, List.set_cons_zero, List.set_cons_succ, List.getElem_toArray, List.getElem_cons_zero, List.getElem_cons_succ])
            refine held_one (i := 5) (by kernel_rfl) rfl (fun K hK => ?_)
            rw [if_pos (by kernel_rfl)]
            refine oper_append6 (.tmp 9) (.tmp 12) 86 rfl (w.heap.size + 2) 92 i8 (.agg #[.string ⟨#[]⟩, .int .u64 0]) 2 24 Tryz.underlying86 hi8 hz8 hs8 hb8 rfl (by decide) v l.length (callsC l) rfl (own_below HZ.out.own (lbox w1 _)) ⟨w1.heap.size, 0, none⟩ 1 1 (callC (callT S rr)) rfl rfl (call_cells _ _ rfl _) call_one (by unfold maxLen; omega) (by omega) (by have := HZ.out.size; simp; omega) ?_
            intro v' wd ho hg hv
            obtain ⟨A', n', c', rfl⟩ := own_form ho
            have HW := Lib.hid (HZ.out.turn (x := callT S rr) ho hg hv)
            refine hK.out _ _ trivial (fun _ => ?_)
            clear hK K ho hg hv
            (try simp only [Act.put, List.setIfInBounds_toArray, List.set_cons_zero, List.set_cons_succ, List.getElem_toArray, List.getElem_cons_zero, List.getElem_cons_succ])
            have hbE := HW.out.2
            have hlE : w.heap.size + 1 < wd.heap.size := (Array.getElem?_eq_some_iff.1 hbE).1
            have q0 := cell6 hbE 0 rfl
            have q0f := frozen6 hbE 0
            refine wpAnyH_take (i := 6) (v := ?_) rfl (by kernel_rfl) (by kernel_rfl) (by kernel_rfl) (fun _ _ _ h => h) (Or.inl ⟨by rfl, ?_⟩) (by assumption) ?_
            rotate_left
            · intro wS hSw
              (skip)
              go_simp
              all_goals with_reducible rfl
            (try simp only [List.getElem_toArray, List.getElem_cons_zero, List.getElem_cons_succ, Act.put, List.setIfInBounds_toArray, List.set_cons_zero, List.set_cons_succ])
            refine held_one (i := 7) (by kernel_rfl) rfl (fun K hK => ?_)
            go_simp
            refine hK.out _ _ trivial (fun _ => ?_)
            clear hK K hbE hlE q0 q0f
            refine wpAnyH_done (by kernel_rfl) ?_ _
            have HX1 := HW.out.1
            rw [E1.out] at HX1
            have HX := Lib.hid HX1
            clear HX1
            clear HW
            generalize wd.setCell ⟨w.heap.size + 1, 0, none⟩ (.slice A' n' c') = wx at HX ⊢
            go_wp2_with (first
              | (go_at_call 39; (with_reducible refine (HIs.out _ HX.out.rd).mono ?_); rintro e w2 ⟨rfl, hr2, hg2⟩; have HN := Lib.hid (HX.out.call hr2 hg2); obtain ⟨tb, capc, hvv, hRD⟩ := HN.out.done HP.out; have HVV := Lib.hid hvv; have H1 := Lib.hid hRD; clear hr2 hg2 hvv hRD HX)
              | (go_at_call 39; (with_reducible refine (HIw.out _ H1.out.rd).mono ?_); rintro e w4 ⟨rfl, hr4, hg4⟩; have H2 := Lib.hid (H1.out.call hr4 hg4); clear hr4 hg4)
              | (go_at_call 42; (with_reducible refine (HE.out _ H2.out.rd).mono ?_); rintro e w3 ⟨Ax, cx, rfl, hx3, hr3, hg3⟩; have H3 := Lib.hid (H2.out.call hr3 hg3); have HX3 : Hid (ExIn w3 (fun k => w.heap.size + 2 ≤ k) yx Ax cx) := Lib.hid (hx3.keep (Nat.le_refl _) (fun k hk => by have := H2.out.size; omega) (fun _ _ _ => rfl)); have hE3 := H3.out.box; have hl3 : w.heap.size + 1 < w3.heap.size := (Array.getElem?_eq_some_iff.1 hE3).1; have e1 := cell6 hE3 1 rfl; have e2 := cell6 hE3 2 rfl; have e3 := cell6 hE3 3 rfl; have e4 := cell6 hE3 4 rfl; have e5 := cell6 hE3 5 rfl; have e6 := cell6 hE3 6 rfl; have g1 := frozen6 hE3 1; have g2 := frozen6 hE3 2; have g3 := frozen6 hE3 3; have g4 := frozen6 hE3 4; have g5 := frozen6 hE3 5; have g6 := frozen6 hE3 6; have H4 := Lib.hid (H3.out.setEx HX3.out); clear hx3 hr3 hg3 hE3)
              | (go_at_call 35; (with_reducible refine (HDo.out _ H4.out.rd).mono ?_); rintro e w5 ⟨rfl, hr5, hg5⟩; have H5 := Lib.hid (H4.out.call hr5 hg5); clear hr5 hg5)
              | (go_at_call 37; (with_reducible refine (HV.out _ H5.out.rd).mono ?_); rintro e w6 ⟨rfl, hr6, hg6⟩; have H6 := Lib.hid (H5.out.call hr6 hg6); have hE6 := H6.out.box; have hl6 : w.heap.size + 1 < w6.heap.size := (Array.getElem?_eq_some_iff.1 hE6).1; have e7 := cell6 hE6 7 rfl; have e8 := cell6 hE6 8 rfl; have g7 := frozen6 hE6 7; have g8 := frozen6 hE6 8; have H7 := Lib.hid (H6.out.setVerd (k' := vk) (n' := (vn : Int))); clear hr6 hg6 hE6)
              | (go_at_call 35; (with_reducible refine (HSe.out _ H7.out.rd).mono ?_); rintro e w8 ⟨rfl, hr8, hg8⟩; have H8 := Lib.hid (H7.out.call hr8 hg8); have hE8 := H8.out.box; have hR8 := H8.out.res; have hlR : w.heap.size < w8.heap.size := (Array.getElem?_eq_some_iff.1 hR8).1; have i0 := cell6 hE8 0 rfl; have i1 := cell6 hE8 1 rfl; have i2 := cell6 hE8 2 rfl; have i3 := cell6 hE8 3 rfl; have i4 := cell6 hE8 4 rfl; have i5 := cell6 hE8 5 rfl; have i6 := cell6 hE8 6 rfl; have i7 := cell6 hE8 7 rfl; have i8 := cell6 hE8 8 rfl; have u0 := cell6 hR8 0 rfl; have u1 := cell6 hR8 1 rfl; have u2 := cell6 hR8 2 rfl; have u3 := cell6 hR8 3 rfl; have u4 := cell6 hR8 4 rfl; have u5 := cell6 hR8 5 rfl; have u6 := cell6 hR8 6 rfl; have u7 := cell6 hR8 7 rfl; have u8 := cell6 hR8 8 rfl; have y0 := frozen6 hR8 0; have y1 := frozen6 hR8 1; have y2 := frozen6 hR8 2; have y3 := frozen6 hR8 3; have y4 := frozen6 hR8 4; have y5 := frozen6 hR8 5; have y6 := frozen6 hR8 6; have y7 := frozen6 hR8 7; have y8 := frozen6 hR8 8; clear hr8 hg8 hE8 hR8))
            exact bodyPost_ret (v := ruV ⟨cs, yx, (vk, vn)⟩ tb capc Ax cx) (by simp [results, Tryz.results41, go_sem, u0, u1, u2, u3, u4, u5, u6, u7, u8, World.cell?_setCell_same']) rfl ⟨_, rfl, H8.out.done⟩
      · rw [hw] at HIw
        clear hw HWh
        go_wp2
        refine wp_region_held_drew (S := fun _ => True) (by kernel_rfl) trivial (fun _ => ?_)
        have HY : Hid (CallsD w wr.drew b A cap S rr l v) := Lib.hid (HT.out.drawn 1)
        clear HT
        generalize wr.drew = Y at HY ⊢
        have hby : Y.cell? ⟨w.heap.size + 1, 0, none⟩ = some v := cell6 HY.out.box 0 rfl
        refine wpAnyH_take (i := 0) (v := ?_) rfl (by kernel_rfl) (by kernel_rfl) (by kernel_rfl) (fun _ _ _ h => h) (Or.inl ⟨by rfl, ?_⟩) (by assumption) ?_
        rotate_left
        · intro wS hSw
          (skip)
          go_simp
          all_goals with_reducible rfl
        (try simp only [List.getElem_toArray, List.getElem_cons_zero, List.getElem_cons_succ, Act.put, List.setIfInBounds_toArray, List.set_cons_zero, List.set_cons_succ])
        refine wpAnyH_take (i := 2) (v := ?_) rfl (by kernel_rfl) (by kernel_rfl) (by kernel_rfl) (fun _ _ _ h => h) (Or.inl ⟨by rfl, ?_⟩) (by assumption) ?_
        rotate_left
        · intro wS hSw
          (skip)
          go_simp
          all_goals with_reducible rfl
        (try simp only [List.getElem_toArray, List.getElem_cons_zero, List.getElem_cons_succ, Act.put, List.setIfInBounds_toArray, List.set_cons_zero, List.set_cons_succ])
        refine wpAnyH_ready (rs := [1, 3]) (by kernel_rfl) (by simp) (AllReadyH.cons rfl (fun K hK => ?_) (AllReadyH.cons rfl (fun K hK => ?_) AllReadyH.nil))
        · go_simp
          refine hK.out _ _ trivial (fun _ => ?_)
          clear hK K
          (try simp only [Act.put, List.setIfInBounds_toArray, List.set_cons_zero, List.set_cons_succ, List.getElem_toArray, List.getElem_cons_zero, List.getElem_cons_succ])
          refine held_one (i := 3) (by kernel_rfl) rfl (fun K hK => ?_)
          go_simp
          go_at_call 72
          refine (HC.out _ HY.out.rd).mono ?_
          rintro e w1 ⟨rfl, hr1, hg1⟩
          have HZ := Lib.hid (HY.out.call hr1 hg1)
          have hbz : w1.cell? ⟨w.heap.size + 1, 0, none⟩ = some v := cell6 HZ.out.box 0 rfl
          refine hK.out _ _ trivial (fun _ => ?_)
          clear hK K hr1 hg1
          (try simp only [Act.put, List.setIfInBounds_toArray, List.set_cons_zero, List.set_cons_succ, List.getElem_toArray, List.getElem_cons_zero, List.getElem_cons_succ])
          refine held_one (i := 4) (by kernel_rfl) rfl (fun K hK => ?_)
          go_simp
          refine hK.out _ _ trivial (fun _ => ?_)
          clear hK K
          (try simp only [Act.put, List.setIfInBounds_toArray, List.set_cons_zero, List.set_cons_succ, List.getElem_toArray, List.getElem_cons_zero, List.getElem_cons_succ])
          refine held_one (i := 5) (by kernel_rfl) rfl (fun K hK => ?_)
          rw [if_pos (by kernel_rfl)]
          refine oper_append6 (.tmp 9) (.tmp 12) 86 rfl (w.heap.size + 2) 92 i8 (.agg #[.string ⟨#[]⟩, .int .u64 0]) 2 24 Tryz.underlying86 hi8 hz8 hs8 hb8 rfl (by decide) v l.length (callsC l) rfl (own_below HZ.out.own (lbox w1 _)) ⟨w1.heap.size, 0, none⟩ 1 1 (callC (callT S rr)) rfl rfl (call_cells _ _ rfl _) call_one (by unfold maxLen; omega) (by omega) (by have := HZ.out.size; simp; omega) ?_
          intro v' wd ho hg hv
          obtain ⟨A', n', c', rfl⟩ := own_form ho
          have HW := Lib.hid (HZ.out.turn (x := callT S rr) ho hg hv)
          refine hK.out _ _ trivial (fun _ => ?_)
          clear hK K ho hg hv
          (try simp only [Act.put, List.setIfInBounds_toArray, List.set_cons_zero, List.set_cons_succ, List.getElem_toArray, List.getElem_cons_zero, List.getElem_cons_succ])
          have hbE := HW.out.2
          have hlE : w.heap.size + 1 < wd.heap.size := (Array.getElem?_eq_some_iff.1 hbE).1
          have q0 := cell6 hbE 0 rfl
          have q0f := frozen6 hbE 0
          refine wpAnyH_take (i := 6) (v := ?_) rfl (by kernel_rfl) (by kernel_rfl) (by kernel_rfl) (fun _ _ _ h => h) (Or.inl ⟨by rfl, ?_⟩) (by assumption) ?_
          rotate_left
          · intro wS hSw
            (skip)
            go_simp
            all_goals with_reducible rfl
          (try simp only [List.getElem_toArray, List.getElem_cons_zero, List.getElem_cons_succ, Act.put, List.setIfInBounds_toArray, List.set_cons_zero, List.set_cons_succ])
          refine held_one (i := 7) (by kernel_rfl) rfl (fun K hK => ?_)
          go_simp
          refine hK.out _ _ trivial (fun _ => ?_)
          clear hK K hbE hlE q0 q0f
          refine wpAnyH_done (by kernel_rfl) ?_ _
          have HX1 := HW.out.1
          rw [E1.out] at HX1
          have HX := Lib.hid HX1
          clear HX1
          clear HW
          generalize wd.setCell ⟨w.heap.size + 1, 0, none⟩ (.slice A' n' c') = wx at HX ⊢
          go_wp2_with (first
            | (go_at_call 39; (with_reducible refine (HIs.out _ HX.out.rd).mono ?_); rintro e w2 ⟨rfl, hr2, hg2⟩; have HN := Lib.hid (HX.out.call hr2 hg2); obtain ⟨tb, capc, hvv, hRD⟩ := HN.out.done HP.out; have HVV := Lib.hid hvv; have H1 := Lib.hid hRD; clear hr2 hg2 hvv hRD HX)
            | (go_at_call 39; (with_reducible refine (HIw.out _ H1.out.rd).mono ?_); rintro e w4 ⟨rfl, hr4, hg4⟩; have H2 := Lib.hid (H1.out.call hr4 hg4); clear hr4 hg4)
            | (go_at_call 35; (with_reducible refine (HDo.out _ H2.out.rd).mono ?_); rintro e w5 ⟨rfl, hr5, hg5⟩; have H5 := Lib.hid (H2.out.call hr5 hg5); clear hr5 hg5)
            | (go_at_call 37; (with_reducible refine (HV.out _ H5.out.rd).mono ?_); rintro e w6 ⟨rfl, hr6, hg6⟩; have H6 := Lib.hid (H5.out.call hr6 hg6); have hE6 := H6.out.box; have hl6 : w.heap.size + 1 < w6.heap.size := (Array.getElem?_eq_some_iff.1 hE6).1; have e7 := cell6 hE6 7 rfl; have e8 := cell6 hE6 8 rfl; have g7 := frozen6 hE6 7; have g8 := frozen6 hE6 8; have H7 := Lib.hid (H6.out.setVerd (k' := vk) (n' := (vn : Int))); clear hr6 hg6 hE6)
            | (go_at_call 35; (with_reducible refine (HSe.out _ H7.out.rd).mono ?_); rintro e w8 ⟨rfl, hr8, hg8⟩; have H8 := Lib.hid (H7.out.call hr8 hg8); have hE8 := H8.out.box; have hR8 := H8.out.res; have hlR : w.heap.size < w8.heap.size := (Array.getElem?_eq_some_iff.1 hR8).1; have i0 := cell6 hE8 0 rfl; have i1 := cell6 hE8 1 rfl; have i2 := cell6 hE8 2 rfl; have i3 := cell6 hE8 3 rfl; have i4 := cell6 hE8 4 rfl; have i5 := cell6 hE8 5 rfl; have i6 := cell6 hE8 6 rfl; have i7 := cell6 hE8 7 rfl; have i8 := cell6 hE8 8 rfl; have u0 := cell6 hR8 0 rfl; have u1 := cell6 hR8 1 rfl; have u2 := cell6 hR8 2 rfl; have u3 := cell6 hR8 3 rfl; have u4 := cell6 hR8 4 rfl; have u5 := cell6 hR8 5 rfl; have u6 := cell6 hR8 6 rfl; have u7 := cell6 hR8 7 rfl; have u8 := cell6 hR8 8 rfl; have y0 := frozen6 hR8 0; have y1 := frozen6 hR8 1; have y2 := frozen6 hR8 2; have y3 := frozen6 hR8 3; have y4 := frozen6 hR8 4; have y5 := frozen6 hR8 5; have y6 := frozen6 hR8 6; have y7 := frozen6 hR8 7; have y8 := frozen6 hR8 8; clear hr8 hg8 hE8 hR8))
          exact bodyPost_ret (v := ruV ⟨cs, .plain 1, (vk, vn)⟩ tb capc none 0) (by simp [results, Tryz.results41, go_sem, u0, u1, u2, u3, u4, u5, u6, u7, u8, World.cell?_setCell_same']) rfl ⟨_, rfl, H8.out.done⟩
        · go_simp
          go_at_call 72
          refine (HC.out _ HY.out.rd).mono ?_
          rintro e w1 ⟨rfl, hr1, hg1⟩
          have HZ := Lib.hid (HY.out.call hr1 hg1)
          have hbz : w1.cell? ⟨w.heap.size + 1, 0, none⟩ = some v := cell6 HZ.out.box 0 rfl
          refine hK.out _ _ trivial (fun _ => ?_)
          clear hK K hr1 hg1
          (try simp only [Act.put, List.setIfInBounds_toArray, List.set_cons_zero, List.set_cons_succ, List.getElem_toArray, List.getElem_cons_zero, List.getElem_cons_succ])
          refine wpAnyH_ready (rs := [1, 4]) (by kernel_rfl) (by simp) (AllReadyH.cons rfl (fun K hK => ?_) (AllReadyH.cons rfl (fun K hK => ?_) AllReadyH.nil))
          · go_simp
            refine hK.out _ _ trivial (fun _ => ?_)
            clear hK K
            (try simp only [Act.put, List.setIfInBounds_toArray, List.set_cons_zero, List.set_cons_succ, List.getElem_toArray, List.getElem_cons_zero, List.getElem_cons_succ])
            refine held_one (i := 4) (by kernel_rfl) rfl (fun K hK => ?_)
            go_simp
            refine hK.out _ _ trivial (fun _ => ?_)
            clear hK K
            (try simp only [Act.put, List.setIfInBounds_toArray, List.set_cons_zero, List.set_cons_succ, List.getElem_toArray, List.getElem_cons_zero, List.getElem_cons_succ])
            refine held_one (i := 5) (by kernel_rfl) rfl (fun K hK => ?_)
            rw [if_pos (by kernel_rfl)]
            refine oper_append6 (.tmp 9) (.tmp 12) 86 rfl (w.heap.size + 2) 92 i8 (.agg #[.string ⟨#[]⟩, .int .u64 0]) 2 24 Tryz.underlying86 hi8 hz8 hs8 hb8 rfl (by decide) v l.length (callsC l) rfl (own_below HZ.out.own (lbox w1 _)) ⟨w1.heap.size, 0, none⟩ 1 1 (callC (callT S rr)) rfl rfl (call_cells _ _ rfl _) call_one (by unfold maxLen; omega) (by omega) (by have := HZ.out.size; simp; omega) ?_
            intro v' wd ho hg hv
            obtain ⟨A', n', c', rfl⟩ := own_form ho
            have HW := Lib.hid (HZ.out.turn (x := callT S rr) ho hg hv)
            refine hK.out _ _ trivial (fun _ => ?_)
            clear hK K ho hg hv
            (try simp only [Act.put, List.setIfInBounds_toArray, List.set_cons_zero, List.set_cons_succ, List.getElem_toArray, List.getElem_cons_zero, List.getElem_cons_succ])
            have hbE := HW.out.2
            have hlE : w.heap.size + 1 < wd.heap.size := (Array.getElem?_eq_some_iff.1 hbE).1
            have q0 := cell6 hbE 0 rfl
            have q0f := frozen6 hbE 0
            refine wpAnyH_take (i := 6) (v := ?_) rfl (by kernel_rfl) (by kernel_rfl) (by kernel_rfl) (fun _ _ _ h => h) (Or.inl ⟨by rfl, ?_⟩) (by assumption) ?_
            rotate_left
            · intro wS hSw
              (skip)
              go_simp
              all_goals with_reducible rfl
            (try simp only [List.getElem_toArray, List.getElem_cons_zero, List.getElem_cons_succ, Act.put, List.setIfInBounds_toArray, List.set_cons_zero, List.set_cons_succ])
            refine held_one (i := 7) (by kernel_rfl) rfl (fun K hK => ?_)
            go_simp
            refine hK.out _ _ trivial (fun _ => ?_)
            clear hK K hbE hlE q0 q0f
            refine wpAnyH_done (by kernel_rfl) ?_ _
            have HX1 := HW.out.1
            rw [E1.out] at HX1
            have HX := Lib.hid HX1
            clear HX1
            clear HW
            generalize wd.setCell ⟨w.heap.size + 1, 0, none⟩ (.slice A' n' c') = wx at HX ⊢
            go_wp2_with (first
              | (go_at_call 39; (with_reducible refine (HIs.out _ HX.out.rd).mono ?_); rintro e w2 ⟨rfl, hr2, hg2⟩; have HN := Lib.hid (HX.out.call hr2 hg2); obtain ⟨tb, capc, hvv, hRD⟩ := HN.out.done HP.out; have HVV := Lib.hid hvv; have H1 := Lib.hid hRD; clear hr2 hg2 hvv hRD HX)
              | (go_at_call 39; (with_reducible refine (HIw.out _ H1.out.rd).mono ?_); rintro e w4 ⟨rfl, hr4, hg4⟩; have H2 := Lib.hid (H1.out.call hr4 hg4); clear hr4 hg4)
              | (go_at_call 35; (with_reducible refine (HDo.out _ H2.out.rd).mono ?_); rintro e w5 ⟨rfl, hr5, hg5⟩; have H5 := Lib.hid (H2.out.call hr5 hg5); clear hr5 hg5)
              | (go_at_call 37; (with_reducible refine (HV.out _ H5.out.rd).mono ?_); rintro e w6 ⟨rfl, hr6, hg6⟩; have H6 := Lib.hid (H5.out.call hr6 hg6); have hE6 := H6.out.box; have hl6 : w.heap.size + 1 < w6.heap.size := (Array.getElem?_eq_some_iff.1 hE6).1; have e7 := cell6 hE6 7 rfl; have e8 := cell6 hE6 8 rfl; have g7 := frozen6 hE6 7; have g8 := frozen6 hE6 8; have H7 := Lib.hid (H6.out.setVerd (k' := vk) (n' := (vn : Int))); clear hr6 hg6 hE6)
              | (go_at_call 35; (with_reducible refine (HSe.out _ H7.out.rd).mono ?_); rintro e w8 ⟨rfl, hr8, hg8⟩; have H8 := Lib.hid (H7.out.call hr8 hg8); have hE8 := H8.out.box; have hR8 := H8.out.res; have hlR : w.heap.size < w8.heap.size := (Array.getElem?_eq_some_iff.1 hR8).1; have i0 := cell6 hE8 0 rfl; have i1 := cell6 hE8 1 rfl; have i2 := cell6 hE8 2 rfl; have i3 := cell6 hE8 3 rfl; have i4 := cell6 hE8 4 rfl; have i5 := cell6 hE8 5 rfl; have i6 := cell6 hE8 6 rfl; have i7 := cell6 hE8 7 rfl; have i8 := cell6 hE8 8 rfl; have u0 := cell6 hR8 0 rfl; have u1 := cell6 hR8 1 rfl; have u2 := cell6 hR8 2 rfl; have u3 := cell6 hR8 3 rfl; have u4 := cell6 hR8 4 rfl; have u5 := cell6 hR8 5 rfl; have u6 := cell6 hR8 6 rfl; have u7 := cell6 hR8 7 rfl; have u8 := cell6 hR8 8 rfl; have y0 := frozen6 hR8 0; have y1 := frozen6 hR8 1; have y2 := frozen6 hR8 2; have y3 := frozen6 hR8 3; have y4 := frozen6 hR8 4; have y5 := frozen6 hR8 5; have y6 := frozen6 hR8 6; have y7 := frozen6 hR8 7; have y8 := frozen6 hR8 8; clear hr8 hg8 hE8 hR8))
            exact bodyPost_ret (v := ruV ⟨cs, .plain 1, (vk, vn)⟩ tb capc none 0) (by simp [results, Tryz.results41, go_sem, u0, u1, u2, u3, u4, u5, u6, u7, u8, World.cell?_setCell_same']) rfl ⟨_, rfl, H8.out.done⟩
          · go_simp
            refine hK.out _ _ trivial (fun _ => ?_)
            clear hK K
            (try simp only [Act.put, List.setIfInBounds_toArray, List.set_cons_zero, List.set_cons_succ, List.getElem_toArray, List.getElem_cons_zero, List.getElem_cons_succ])
            have hba : ∀ o, (w1.alloc o).cell? ⟨w.heap.size + 1, 0, none⟩ = some v := fun o => cell6 (kept_alloc HZ.out.box o) 0 rfl
            refine held_one (i := 1) (by kernel_rfl) rfl (fun K hK => ?_)
            go_simp
            refine hK.out _ _ trivial (fun _ => ?_)
            clear hK K
            (try simp only [Act.put, List.setIfInBounds_toArray, List.set_cons_zero, List.set_cons_succ, List.getElem_toArray, List.getElem_cons_zero, List.getElem_cons_succ])
            refine held_one (i := 5) (by kernel_rfl) rfl (fun K hK => ?_)
            rw [if_pos (by kernel_rfl)]
            refine oper_append6 (.tmp 9) (.tmp 12) 86 rfl (w.heap.size + 2) 92 i8 (.agg #[.string ⟨#[]⟩, .int .u64 0]) 2 24 Tryz.underlying86 hi8 hz8 hs8 hb8 rfl (by decide) v l.length (callsC l) rfl (own_below HZ.out.own (lbox w1 _)) ⟨w1.heap.size, 0, none⟩ 1 1 (callC (callT S rr)) rfl rfl (call_cells _ _ rfl _) call_one (by unfold maxLen; omega) (by omega) (by have := HZ.out.size; simp; omega) ?_
            intro v' wd ho hg hv
            obtain ⟨A', n', c', rfl⟩ := own_form ho
            have HW := Lib.hid (HZ.out.turn (x := callT S rr) ho hg hv)
            refine hK.out _ _ trivial (fun _ => ?_)
            clear hK K ho hg hv
            (try simp only [Act.put, List.setIfInBounds_toArray, List.set_cons_zero, List.set_cons_succ, List.getElem_toArray, List.getElem_cons_zero, List.getElem_cons_succ])
            have hbE := HW.out.2
            have hlE : w.heap.size + 1 < wd.heap.size := (Array.getElem?_eq_some_iff.1 hbE).1
            have q0 := cell6 hbE 0 rfl
            have q0f := frozen6 hbE 0
            refine wpAnyH_take (i := 6) (v := ?_) rfl (by kernel_rfl) (by kernel_rfl) (by kernel_rfl) (fun _ _ _ h => h) (Or.inl ⟨by rfl, ?_⟩) (by assumption) ?_
            rotate_left
            · intro wS hSw
              (skip)
              go_simp
              all_goals with_reducible rfl
            (try simp only [List.getElem_toArray, List.getElem_cons_zero, List.getElem_cons_succ, Act.put, List.setIfInBounds_toArray, List.set_cons_zero, List.set_cons_succ])
            refine held_one (i := 7) (by kernel_rfl) rfl (fun K hK => ?_)
            go_simp
            refine hK.out _ _ trivial (fun _ => ?_)
            clear hK K hbE hlE q0 q0f
            refine wpAnyH_done (by kernel_rfl) ?_ _
            have HX1 := HW.out.1
            rw [E1.out] at HX1
            have HX := Lib.hid HX1
            clear HX1
            clear HW
            generalize wd.setCell ⟨w.heap.size + 1, 0, none⟩ (.slice A' n' c') = wx at HX ⊢
            go_wp2_with (first
              | (go_at_call 39; (with_reducible refine (HIs.out _ HX.out.rd).mono ?_); rintro e w2 ⟨rfl, hr2, hg2⟩; have HN := Lib.hid (HX.out.call hr2 hg2); obtain ⟨tb, capc, hvv, hRD⟩ := HN.out.done HP.out; have HVV := Lib.hid hvv; have H1 := Lib.hid hRD; clear hr2 hg2 hvv hRD HX)
              | (go_at_call 39; (with_reducible refine (HIw.out _ H1.out.rd).mono ?_); rintro e w4 ⟨rfl, hr4, hg4⟩; have H2 := Lib.hid (H1.out.call hr4 hg4); clear hr4 hg4)
              | (go_at_call 35; (with_reducible refine (HDo.out _ H2.out.rd).mono ?_); rintro e w5 ⟨rfl, hr5, hg5⟩; have H5 := Lib.hid (H2.out.call hr5 hg5); clear hr5 hg5)
              | (go_at_call 37; (with_reducible refine (HV.out _ H5.out.rd).mono ?_); rintro e w6 ⟨rfl, hr6, hg6⟩; have H6 := Lib.hid (H5.out.call hr6 hg6); have hE6 := H6.out.box; have hl6 : w.heap.size + 1 < w6.heap.size := (Array.getElem?_eq_some_iff.1 hE6).1; have e7 := cell6 hE6 7 rfl; have e8 := cell6 hE6 8 rfl; have g7 := frozen6 hE6 7; have g8 := frozen6 hE6 8; have H7 := Lib.hid (H6.out.setVerd (k' := vk) (n' := (vn : Int))); clear hr6 hg6 hE6)
              | (go_at_call 35; (with_reducible refine (HSe.out _ H7.out.rd).mono ?_); rintro e w8 ⟨rfl, hr8, hg8⟩; have H8 := Lib.hid (H7.out.call hr8 hg8); have hE8 := H8.out.box; have hR8 := H8.out.res; have hlR : w.heap.size < w8.heap.size := (Array.getElem?_eq_some_iff.1 hR8).1; have i0 := cell6 hE8 0 rfl; have i1 := cell6 hE8 1 rfl; have i2 := cell6 hE8 2 rfl; have i3 := cell6 hE8 3 rfl; have i4 := cell6 hE8 4 rfl; have i5 := cell6 hE8 5 rfl; have i6 := cell6 hE8 6 rfl; have i7 := cell6 hE8 7 rfl; have i8 := cell6 hE8 8 rfl; have u0 := cell6 hR8 0 rfl; have u1 := cell6 hR8 1 rfl; have u2 := cell6 hR8 2 rfl; have u3 := cell6 hR8 3 rfl; have u4 := cell6 hR8 4 rfl; have u5 := cell6 hR8 5 rfl; have u6 := cell6 hR8 6 rfl; have u7 := cell6 hR8 7 rfl; have u8 := cell6 hR8 8 rfl; have y0 := frozen6 hR8 0; have y1 := frozen6 hR8 1; have y2 := frozen6 hR8 2; have y3 := frozen6 hR8 3; have y4 := frozen6 hR8 4; have y5 := frozen6 hR8 5; have y6 := frozen6 hR8 6; have y7 := frozen6 hR8 7; have y8 := frozen6 hR8 8; clear hr8 hg8 hE8 hR8))
            exact bodyPost_ret (v := ruV ⟨cs, .plain 1, (vk, vn)⟩ tb capc none 0) (by simp [results, Tryz.results41, go_sem, u0, u1, u2, u3, u4, u5, u6, u7, u8, World.cell?_setCell_same']) rfl ⟨_, rfl, H8.out.done⟩
end Go.Proofs.YtgeapkjegemkeaaGreatDoor
namespace Go.Proofs.YtgeapkjegemkeaaGreatDoor
open Go Go.RowKit
set_option linter.unusedSimpArgs false
set_option linter.unusedVariables false

/-- A rule, whatever its parts. -/
theorem rd6_ruleS {S : Src} {n : Nat} {w : World} {b : Nat} {A : Option Addr} {cap : Nat} {r : Rd} (hJ : J S r) (hd : r.deep = 0) (h : RdAt w b A cap S r) {x : Ru} {r' : Rd} (hx : ruleS S n r = some (x, r')) :
    Calls Tryz.prog 41 #[.pointer (some ⟨b, 0, none⟩)] w fun e w' => ∃ v, e = .returned v ∧ RuP w.heap.size x v w' ∧ RdAt w' b A cap S r' ∧ w.grownBy w' (some b) := by
  unfold ruleS at hx
  cases hc : callsS S n [] r with
  | none => rw [hc] at hx; cases hx
  | some c =>
    obtain ⟨cs, rc⟩ := c
    rw [hc] at hx
    cases hw : whenS S n rc with
    | none => simp only [Option.bind_some, hw] at hx; cases hx
    | some y =>
      obtain ⟨yx, ry⟩ := y
      simp only [Option.bind_some, hw] at hx
      injection hx with hx
      injection hx with e1 e2
      subst e1
      subst e2
      obtain ⟨vk, vn, hv⟩ : ∃ vk vn, verdT S (ry.wantR S 2 bDo) = (vk, vn) := ⟨_, _, rfl⟩
      rw [hv]
      exact rd6_rule n w b A cap r hJ hd h cs rc yx ry hc hw vk vn hv
/-- A policy under way: its box E, the reader b ahead of it, the result's box. -/
structure PoD (w W : World) (b : Nat) (A : Option Addr) (cap : Nat) (S : Src) (r : Rd) (E : Nat) (a : ByteArray) (fk fn dk dn : Int) (l : List Ru) (v : Value) (xs : List Value) : Prop where
  rd : RdAt W b A cap S r
  bel : Below w.heap.size w W
  wb : w.heap.size < b
  bE : b < E
  box : W.heap[E]? = some (poO a fk fn dk dn v)
  res : W.heap[w.heap.size]? = some (poO ⟨#[]⟩ 0 0 0 0 (.slice none 0 0))
  own : W.ownsRow (E + 1) 88 9 v l.length xs
  chunks : ChunksR W (fun k => E + 1 ≤ k ∧ some k ≠ v.ownBlock) l xs
section
variable {w W W1 wd : World} {b : Nat} {A : Option Addr} {cap : Nat} {S : Src} {r r1 : Rd} {E : Nat} {a : ByteArray} {fk fn dk dn : Int} {l : List Ru} {v v' : Value} {xs : List Value} {x : Ru} {O : Obj} {tb capc : Nat} {Ax : Option Addr} {cx : Nat}
theorem PoD.size (h : PoD w W b A cap S r E a fk fn dk dn l v xs) : E < W.heap.size := (Array.getElem?_eq_some_iff.1 h.box).1
theorem PoD.call (h : PoD w W b A cap S r E a fk fn dk dn l v xs) (hp : RdAt W1 b A cap S r1) (hg : W.grownBy W1 (some b)) : PoD w W1 b A cap S r1 E a fk fn dk dn l v xs := by
  have h1 := h.wb; have h2 := h.bE; have h3 := h.size
  have h4 := h.bel.size
  refine ⟨hp, below_grow h.bel hg (by omega) (by omega), h1, h2, kept_box h.box hg (by omega), kept_box h.res hg (by omega), h.own.kept (row := some b) hg ?_, h.chunks.keep hg.size (fun _ hk => hk) (fun k hk _ => hg.block k (by assumption) (fun e => by injection e with e; have := hk.1; omega))⟩
  rcases hv : v.ownBlock with _ | c
  · exact .inl rfl
  · exact .inr (fun e => by injection e with e; have := (h.own.lt c hv).1; omega)
theorem PoD.alloc (h : PoD w W b A cap S r E a fk fn dk dn l v xs) (O : Obj) : PoD w (W.alloc O) b A cap S r E a fk fn dk dn l v xs :=
  h.call (h.rd.below (lbox W O)) (grown_of_below (lbox W O) (some b))
theorem PoD.drawn (h : PoD w W b A cap S r E a fk fn dk dn l v xs) (n : Nat) : PoD w (W.drewN n) b A cap S r E a fk fn dk dn l v xs :=
  ⟨h.rd.keep6 (Nat.le_refl _) (fun _ _ => rfl), below_drawn h.bel n, h.wb, h.bE, h.box, h.res, h.own, ChunksR.keep (w := W) (w' := W.drewN n) (show W.heap.size ≤ (W.drewN n).heap.size from Nat.le_refl _) (fun _ hk => hk) (fun _ _ _ => rfl) h.chunks⟩
/-- Nothing but a cell of the policy is turned. -/
theorem PoD.setAny (h : PoD w W b A cap S r E a fk fn dk dn l v xs) (i : Nat) (u : Value) : RdAt (W.setCell ⟨E, i, none⟩ u) b A cap S r ∧ Below w.heap.size w (W.setCell ⟨E, i, none⟩ u) ∧ (W.setCell ⟨E, i, none⟩ u).heap[w.heap.size]? = some (poO ⟨#[]⟩ 0 0 0 0 (.slice none 0 0)) ∧ (W.setCell ⟨E, i, none⟩ u).ownsRow (E + 1) 88 9 v l.length xs ∧ ChunksR (W.setCell ⟨E, i, none⟩ u) (fun k => E + 1 ≤ k ∧ some k ≠ v.ownBlock) l xs := by
  have h1 := h.wb; have h2 := h.bE
  refine ⟨h.rd.new h2 i u, h.bel.setCell (p := ⟨E, i, none⟩) (show w.heap.size ≤ E by omega) u, kept_set h.res (by omega) i u, h.own.kept (row := some E) (grown_set (World.grownBy.refl W _) i u) ?_, h.chunks.keep (by simp [World.setCell]) (fun _ hk => hk) (fun k hk _ => Below.heap_setCell W ⟨E, i, none⟩ u k (show k ≠ E by have := hk.1; omega))⟩
  rcases hv : v.ownBlock with _ | c
  · exact .inl rfl
  · exact .inr (fun e => by injection e with e; have := (h.own.lt c hv).1; omega)
theorem PoD.setArch (h : PoD w W b A cap S r E a fk fn dk dn l v xs) (a' : ByteArray) : PoD w (W.setCell ⟨E, 0, none⟩ (.string a')) b A cap S r E a' fk fn dk dn l v xs :=
  have k := h.setAny 0 (.string a')
  ⟨k.1, k.2.1, h.wb, h.bE, heap_set1 h.box 0 _, k.2.2.1, k.2.2.2.1, k.2.2.2.2⟩
theorem PoD.set1 (h : PoD w W b A cap S r E a fk fn dk dn l v xs) (i : Int) : PoD w (W.setCell ⟨E, 1, none⟩ (.int .i64 i)) b A cap S r E a i fn dk dn l v xs :=
  have k := h.setAny 1 (.int .i64 i)
  ⟨k.1, k.2.1, h.wb, h.bE, heap_set1 h.box 1 _, k.2.2.1, k.2.2.2.1, k.2.2.2.2⟩
theorem PoD.set2 (h : PoD w W b A cap S r E a fk fn dk dn l v xs) (i : Int) : PoD w (W.setCell ⟨E, 2, none⟩ (.int .u64 i)) b A cap S r E a fk i dk dn l v xs :=
  have k := h.setAny 2 (.int .u64 i)
  ⟨k.1, k.2.1, h.wb, h.bE, heap_set1 h.box 2 _, k.2.2.1, k.2.2.2.1, k.2.2.2.2⟩
theorem PoD.set3 (h : PoD w W b A cap S r E a fk fn dk dn l v xs) (i : Int) : PoD w (W.setCell ⟨E, 3, none⟩ (.int .i64 i)) b A cap S r E a fk fn i dn l v xs :=
  have k := h.setAny 3 (.int .i64 i)
  ⟨k.1, k.2.1, h.wb, h.bE, heap_set1 h.box 3 _, k.2.2.1, k.2.2.2.1, k.2.2.2.2⟩
theorem PoD.set4 (h : PoD w W b A cap S r E a fk fn dk dn l v xs) (i : Int) : PoD w (W.setCell ⟨E, 4, none⟩ (.int .u64 i)) b A cap S r E a fk fn dk i l v xs :=
  have k := h.setAny 4 (.int .u64 i)
  ⟨k.1, k.2.1, h.wb, h.bE, heap_set1 h.box 4 _, k.2.2.1, k.2.2.2.1, k.2.2.2.2⟩
/-- One rule more. -/
theorem PoD.turn (h : PoD w W b A cap S r E a fk fn dk dn l v xs) (hx : RuIn W (fun k => E + 1 ≤ k ∧ some k ≠ v.ownBlock) x tb Ax cx)
    (ho : wd.ownsRow (E + 1) 88 9 v' (l.length + 1) (xs ++ ruC x tb capc Ax cx)) (hg : (W.alloc O).grownBy wd v.ownBlock) (hv : v'.ownBlock = v.ownBlock ∨ v'.ownBlock = some (W.alloc O).heap.size) :
    PoD w (wd.setCell ⟨E, 5, none⟩ v') b A cap S r E a fk fn dk dn (l ++ [x]) v' (xs ++ ruC x tb capc Ax cx) ∧ wd.heap[E]? = some (poO a fk fn dk dn v) := by
  have hsz : (W.alloc O).heap.size = W.heap.size + 1 := by simp
  have hvl : ∀ c, v.ownBlock = some c → E + 1 ≤ c ∧ c < W.heap.size := fun c e => h.own.lt c e
  have h1 := h.wb; have h2 := h.bE; have h3 := h.size
  have size3 := hg.size
  have keep : ∀ c, c < E + 1 → wd.heap[c]? = W.heap[c]? := fun c hc => (hg.block c (by omega) (fun e => by have := hvl c e.symm; omega)).trans (Below.heap_alloc W O c (by omega))
  have keep2 : ∀ c, c < W.heap.size → some c ≠ v.ownBlock → wd.heap[c]? = W.heap[c]? := fun c hc hne => (hg.block c (by omega) hne).trans (Below.heap_alloc W O c hc)
  have hbx : wd.heap[E]? = some (poO a fk fn dk dn v) := (keep _ (by omega)).trans h.box
  have hG : ∀ k, (E + 1 ≤ k ∧ some k ≠ v.ownBlock) ∧ k < W.heap.size → E + 1 ≤ k ∧ some k ≠ v'.ownBlock := fun k hk => ⟨hk.1.1, fun e => by
    rcases hv with hv | hv
    · exact hk.1.2 (e.trans hv)
    · rw [hv, hsz] at e; injection e with e; have := hk.2; omega⟩
  have hK : ∀ k, ((E + 1 ≤ k ∧ some k ≠ v.ownBlock) ∧ k < W.heap.size) → k < W.heap.size → (wd.setCell ⟨E, 5, none⟩ v').heap[k]? = W.heap[k]? := fun k hk hl =>
    (Below.heap_setCell wd ⟨E, 5, none⟩ v' k (show k ≠ E by have := hk.1.1; omega)).trans (keep2 k hl hk.1.2)
  have hs5 : (wd.setCell ⟨E, 5, none⟩ v').heap.size = wd.heap.size := by simp [World.setCell]
  have hbel : Below w.heap.size w wd := ⟨hg.os.trans h.bel.os, hg.tape.trans h.bel.tape, hg.output.trans h.bel.output, by have := h.bel.size; omega, fun c hc => (keep c (by omega)).trans (h.bel.block c hc)⟩
  refine ⟨⟨(h.rd.keep6 (by omega) (fun c hc => keep c (by omega))).new h2 5 _, hbel.setCell (p := ⟨E, 5, none⟩) (show w.heap.size ≤ E by omega) _, h1, h2, heap_set1 hbx 5 _, kept_set ((keep _ (by omega)).trans h.res) (by omega) 5 _, ?_, ?_⟩, hbx⟩
  · rw [List.length_append]
    refine World.ownsRow.kept (row := some E) ho (grown_set (World.grownBy.refl wd _) 5 _) ?_
    rcases hv with hv | hv
    · rw [hv]
      rcases hq : v.ownBlock with _ | c
      · exact .inl rfl
      · exact .inr (fun e => by injection e with e; have := (hvl c hq).1; omega)
    · rw [hv]; exact .inr (fun e => by injection e with e; omega)
  · exact ((chunksR_lt h.chunks).keep (by omega) hG hK).snoc ((ru_lt hx).keep (by omega) hG hK)
/-- Its rules. -/
theorem PoD.rules (h : PoD w W b A cap S r E a fk fn dk dn l v xs) : RulesP (E + 1) l v W := by
  rcases h.own.2 with ⟨hv, h0⟩ | ⟨tb, cap, cur, hv, hlo, hh, _, _, hs, ht⟩
  · exact .inl ⟨List.length_eq_zero_iff.1 h0, hv⟩
  · subst hv
    refine .inr ⟨tb, cap, rfl, hlo, (Array.getElem?_eq_some_iff.1 hh).1, ?_⟩
    refine (h.chunks.keep (Nat.le_refl _) (fun k hk => hk.1) (fun _ _ _ => rfl)).row (fun j u hj => ?_)
    rw [Nat.zero_add, World.ownsRow.cellAt h.own j (by rw [← h.own.1]; exact (List.getElem?_eq_some_iff.1 hj).1)]
    exact hj
/-- At the start. -/
theorem PoD.first (hp : RdAt W b A cap S r) (hb : Below w.heap.size w W) (hr : W.heap[w.heap.size]? = some (poO ⟨#[]⟩ 0 0 0 0 (.slice none 0 0))) (hwb : w.heap.size < b) :
    PoD w (W.alloc (poO ⟨#[]⟩ 0 0 0 0 (.slice none 0 0))) b A cap S r W.heap.size ⟨#[]⟩ 0 0 0 0 [] (.slice none 0 0) [] :=
  ⟨hp.below (lbox W _), hb.trans ((lbox W _).mono hb.size), hwb, hp.row.lt, World.alloc_heap_new W _, kept_alloc hr _, World.ownsRow_nil _ _ _ _, rfl⟩
end
set_option maxHeartbeats 8000000 in
set_option maxRecDepth 100000 in
theorem rd6_Parse_ok (s : ByteArray) (w : World) (hm : s.size ≤ maxLen) (n : Nat) (lr : List Ru) (re : Rd) (h1 : rulesS (srcF s) n n [] (q9 (srcF s) ⟨0, 0, 0, 0⟩) = some (lr, re)) (hok : (re.kindR (srcF s) 1).err = 0) (j : Nat)
    (a : ByteArray) (fk dk : Int) (fv dv : Nat) (ha : ((q1 (srcF s) ⟨0, 0, 0, 0⟩).kindT (srcF s) 2).text = a) (hf : verdT (srcF s) (q4 (srcF s) ⟨0, 0, 0, 0⟩) = (fk, fv)) (hd : verdT (srcF s) (q7 (srcF s) ⟨0, 0, 0, 0⟩) = (dk, dv)) :
    Calls Tryz.prog 14 #[.string s] w (ParseP (PoP w.heap.size) (poV ⟨#[]⟩ 0 0 0 0 (.slice none 0 0)) w (.ok ⟨a, (fk, fv), (dk, dv), lr⟩ j)) := by
  have hsm := src_small s
  have s0 : (w.alloc (poO ⟨#[]⟩ 0 0 0 0 (.slice none 0 0))).heap.size = w.heap.size + 1 := by simp
  have HD : Hid (Calls Tryz.prog 34 #[.string s] (w.alloc (poO ⟨#[]⟩ 0 0 0 0 (.slice none 0 0))) (fun e w' => ∃ b A cap, e = .returned (.pointer (some ⟨b, 0, none⟩)) ∧ RdAt w' b A cap (srcF s) ⟨0, 0, 0, 0⟩ ∧ Below (w.heap.size + 1) (w.alloc (poO ⟨#[]⟩ 0 0 0 0 (.slice none 0 0))) w' ∧ w.heap.size + 1 ≤ b)) := Lib.hid (by
    have h := rd6_reader s (w.alloc (poO ⟨#[]⟩ 0 0 0 0 (.slice none 0 0))) hm hsm
    unfold ReaderP at h
    rw [s0] at h
    exact h)
  have h00 : J (srcF s) ⟨0, 0, 0, 0⟩ := ⟨Nat.zero_le _, fun _ => Nat.zero_le _⟩
  obtain ⟨S, hS⟩ : ∃ S, S = srcF s := ⟨_, rfl⟩
  rw [← hS] at h1 hok ha hf hd hsm HD h00
  try rw [← hS]
  clear hS
  obtain ⟨g1, g2, g3, g4, g5, g6, g7, g8, g9⟩ := goes_head (S := S) h00
  have k5 := goes_kind g4.j 2 (by decide)
  have k8 := goes_kind g7.j 2 (by decide)
  have l1 := g1.j.le; have l2 := g2.j.le; have l3 := g3.j.le; have l4 := g4.j.le; have l5 := g5.j.le; have l6 := g6.j.le; have l7 := g7.j.le; have l8 := g8.j.le; have l9 := g9.j.le
  have l5k := k5.j.le; have l8k := k8.j.le
  have C1 : Hid (∀ W b A cap, RdAt W b A cap S ⟨0, 0, 0, 0⟩ → Calls Tryz.prog 35 #[.pointer (some ⟨b, 0, none⟩), .int .i64 2, .string ⟨#[97, 114, 99, 104]⟩] W (RdP W b A cap S (.tuple #[]) (q1 S ⟨0, 0, 0, 0⟩))) := Lib.hid (fun W b A cap hW => rd6_want W b A cap S _ hW 2 ⟨#[97, 114, 99, 104]⟩ (Nat.zero_le _))
  have C2 : Hid (∀ W b A cap, RdAt W b A cap S (q1 S ⟨0, 0, 0, 0⟩) → Calls Tryz.prog 36 #[.pointer (some ⟨b, 0, none⟩), .int .i64 2] W (RdP W b A cap S (.agg #[.int .i64 ((q1 S ⟨0, 0, 0, 0⟩).kindT S 2).kind, .string a, .int .u64 (((q1 S ⟨0, 0, 0, 0⟩).kindT S 2).num : Int), .int .i64 (((q1 S ⟨0, 0, 0, 0⟩).kindT S 2).pos : Int)]) (q2 S ⟨0, 0, 0, 0⟩))) := Lib.hid (fun W b A cap hW => by rw [← ha]; exact rd6_kind W b A cap S _ hW 2 (by omega))
  have C3 : Hid (∀ W b A cap, RdAt W b A cap S (q2 S ⟨0, 0, 0, 0⟩) → Calls Tryz.prog 35 #[.pointer (some ⟨b, 0, none⟩), .int .i64 4, .string ⟨#[59]⟩] W (RdP W b A cap S (.tuple #[]) (q3 S ⟨0, 0, 0, 0⟩))) := Lib.hid (fun W b A cap hW => rd6_want W b A cap S _ hW 4 ⟨#[59]⟩ (by omega))
  have C4 : Hid (∀ W b A cap, RdAt W b A cap S (q3 S ⟨0, 0, 0, 0⟩) → Calls Tryz.prog 35 #[.pointer (some ⟨b, 0, none⟩), .int .i64 2, .string ⟨#[102, 111, 114, 101, 105, 103, 110]⟩] W (RdP W b A cap S (.tuple #[]) (q4 S ⟨0, 0, 0, 0⟩))) := Lib.hid (fun W b A cap hW => rd6_want W b A cap S _ hW 2 ⟨#[102, 111, 114, 101, 105, 103, 110]⟩ (by omega))
  have C5 : Hid (∀ W b A cap, RdAt W b A cap S (q4 S ⟨0, 0, 0, 0⟩) → Calls Tryz.prog 37 #[.pointer (some ⟨b, 0, none⟩)] W (RdP W b A cap S (.agg #[.int .i64 fk, .int .u64 (fv : Int)]) (q5 S ⟨0, 0, 0, 0⟩))) := Lib.hid (fun W b A cap hW => by have := rd6_verdict W b A cap S _ hW (by omega) (by omega); rw [hf] at this; exact this)
  have C6 : Hid (∀ W b A cap, RdAt W b A cap S (q5 S ⟨0, 0, 0, 0⟩) → Calls Tryz.prog 35 #[.pointer (some ⟨b, 0, none⟩), .int .i64 4, .string ⟨#[59]⟩] W (RdP W b A cap S (.tuple #[]) (q6 S ⟨0, 0, 0, 0⟩))) := Lib.hid (fun W b A cap hW => rd6_want W b A cap S _ hW 4 ⟨#[59]⟩ (by omega))
  have C7 : Hid (∀ W b A cap, RdAt W b A cap S (q6 S ⟨0, 0, 0, 0⟩) → Calls Tryz.prog 35 #[.pointer (some ⟨b, 0, none⟩), .int .i64 2, .string ⟨#[100, 101, 102, 97, 117, 108, 116]⟩] W (RdP W b A cap S (.tuple #[]) (q7 S ⟨0, 0, 0, 0⟩))) := Lib.hid (fun W b A cap hW => rd6_want W b A cap S _ hW 2 ⟨#[100, 101, 102, 97, 117, 108, 116]⟩ (by omega))
  have C8 : Hid (∀ W b A cap, RdAt W b A cap S (q7 S ⟨0, 0, 0, 0⟩) → Calls Tryz.prog 37 #[.pointer (some ⟨b, 0, none⟩)] W (RdP W b A cap S (.agg #[.int .i64 dk, .int .u64 (dv : Int)]) (q8 S ⟨0, 0, 0, 0⟩))) := Lib.hid (fun W b A cap hW => by have := rd6_verdict W b A cap S _ hW (by omega) (by omega); rw [hd] at this; exact this)
  have C9 : Hid (∀ W b A cap, RdAt W b A cap S (q8 S ⟨0, 0, 0, 0⟩) → Calls Tryz.prog 35 #[.pointer (some ⟨b, 0, none⟩), .int .i64 4, .string ⟨#[59]⟩] W (RdP W b A cap S (.tuple #[]) (q9 S ⟨0, 0, 0, 0⟩))) := Lib.hid (fun W b A cap hW => rd6_want W b A cap S _ hW 4 ⟨#[59]⟩ (by omega))
  have gE := goes_rules (S := S) n [] _ _ g9.j h1
  have HK := Lib.hid (fun W b A cap hp => rd6_kind W b A cap S re hp 1 (by have := gE.j.le; simp only at this; omega))
  have HO := Lib.hid hok
  have HJ := Lib.hid (And.intro g9.j (And.intro (show (q9 S ⟨0, 0, 0, 0⟩).deep = 0 from g9.deep) h1))
  clear ha hf hd h1 hok g1 g2 g3 g4 g5 g6 g7 g8 g9 k5 k8 l1 l2 l3 l4 l5 l6 l7 l8 l9 l5k l8k gE h00
  generalize q9 S ⟨0, 0, 0, 0⟩ = r9 at C9 HJ
  generalize q8 S ⟨0, 0, 0, 0⟩ = r8 at C8 C9
  generalize q7 S ⟨0, 0, 0, 0⟩ = r7 at C7 C8
  generalize q6 S ⟨0, 0, 0, 0⟩ = r6 at C6 C7
  generalize q5 S ⟨0, 0, 0, 0⟩ = r5 at C5 C6
  generalize q4 S ⟨0, 0, 0, 0⟩ = r4 at C4 C5
  generalize q3 S ⟨0, 0, 0, 0⟩ = r3 at C3 C4
  generalize q2 S ⟨0, 0, 0, 0⟩ = r2' at C2 C3
  generalize (q1 S ⟨0, 0, 0, 0⟩).kindT S 2 = t2 at C2
  generalize q1 S ⟨0, 0, 0, 0⟩ = r1' at C1 C2
  generalize re.kindR S 1 = r2 at HK HO ⊢
  generalize re.kindT S 1 = tq at HK
  have HR0 := Lib.hid (World.alloc_heap_new w (poO ⟨#[]⟩ 0 0 0 0 (.slice none 0 0)))
  have hfld : ∀ (k : Int) (t : ByteArray) (n p : Int) (w : World), (Instr.field 77 (.agg #[.int .i64 k, .string t, .int .u64 n, .int .i64 p]) 1).run Tryz.prog w = .ok (.string t) w := fun _ _ _ _ _ => rfl
  obtain ⟨i8, hi8, hz8, hs8, hb8⟩ := info_parts6 info_ru
  go_enter Tryz.func14, Tryz.ntmps14
  go_wp2_with (first
    | (go_at_call 34; (with_reducible refine HD.out.mono ?_); rintro e wr0 ⟨b, A, cap, rfl, hp, hb, hlo⟩; have I0 := Lib.hid (PoD.first (w := w) hp ((lbox w (poO ⟨#[]⟩ 0 0 0 0 (.slice none 0 0))).trans (hb.mono (Nat.le_succ _))) ((hb.block w.heap.size (Nat.lt_succ_self _)).trans HR0.out) hlo); clear hp hb hlo)
    | (go_at_call 35; (with_reducible refine (C1.out _ _ _ _ I0.out.rd).mono ?_); rintro e w01 ⟨rfl, hr, hg⟩; have I1 := Lib.hid (I0.out.call hr hg); clear hr hg I0)
    | (go_at_call 36; (with_reducible refine (C2.out _ _ _ _ I1.out.rd).mono ?_); rintro e w02 ⟨rfl, hr, hg⟩; have I2' := Lib.hid (I1.out.call hr hg); have e0 := cell6 I2'.out.box 0 rfl; have z0 := frozen6 I2'.out.box 0; have hl2 := I2'.out.size; have I2 := Lib.hid (I2'.out.setArch a); clear hr hg I1)
    | (go_at_call 35; (with_reducible refine (C3.out _ _ _ _ I2.out.rd).mono ?_); rintro e w03 ⟨rfl, hr, hg⟩; have I3 := Lib.hid (I2.out.call hr hg); clear hr hg I2 I2' e0 z0 hl2)
    | (go_at_call 35; (with_reducible refine (C4.out _ _ _ _ I3.out.rd).mono ?_); rintro e w04 ⟨rfl, hr, hg⟩; have I4 := Lib.hid (I3.out.call hr hg); clear hr hg I3)
    | (go_at_call 37; (with_reducible refine (C5.out _ _ _ _ I4.out.rd).mono ?_); rintro e w05 ⟨rfl, hr, hg⟩; have I5' := Lib.hid (I4.out.call hr hg); have e1 := cell6 I5'.out.box 1 rfl; have z1 := frozen6 I5'.out.box 1; have e2 := cell6 I5'.out.box 2 rfl; have z2 := frozen6 I5'.out.box 2; have hl5 := I5'.out.size; have I5 := Lib.hid ((I5'.out.set1 fk).set2 (fv : Int)); clear hr hg I4)
    | (go_at_call 35; (with_reducible refine (C6.out _ _ _ _ I5.out.rd).mono ?_); rintro e w06 ⟨rfl, hr, hg⟩; have I6 := Lib.hid (I5.out.call hr hg); clear hr hg I5 I5' e1 z1 e2 z2 hl5)
    | (go_at_call 35; (with_reducible refine (C7.out _ _ _ _ I6.out.rd).mono ?_); rintro e w07 ⟨rfl, hr, hg⟩; have I7 := Lib.hid (I6.out.call hr hg); clear hr hg I6)
    | (go_at_call 37; (with_reducible refine (C8.out _ _ _ _ I7.out.rd).mono ?_); rintro e w08 ⟨rfl, hr, hg⟩; have I8' := Lib.hid (I7.out.call hr hg); have e3 := cell6 I8'.out.box 3 rfl; have z3 := frozen6 I8'.out.box 3; have e4 := cell6 I8'.out.box 4 rfl; have z4 := frozen6 I8'.out.box 4; have hl8 := I8'.out.size; have I8 := Lib.hid ((I8'.out.set3 dk).set4 (dv : Int)); clear hr hg I7)
    | (go_at_call 35; (with_reducible refine (C9.out _ _ _ _ I8.out.rd).mono ?_); rintro e w09 ⟨rfl, hr, hg⟩; have I9 := Lib.hid (I8.out.call hr hg); clear hr hg I8 I8' e3 z3 e4 z4 hl8))
  obtain ⟨E, hEE⟩ : ∃ E, E = wr0.heap.size := ⟨_, rfl⟩
  rw [← hEE] at I9 ⊢
  clear hEE
  have HKb := Lib.hid (fun W hp => HK.out W b A cap hp)
  clear C1 C2 C3 C4 C5 C6 C7 C8 C9 HD HK
  have HK := HKb
  obtain ⟨fn, hfn⟩ : ∃ fn : Int, fn = (fv : Int) := ⟨_, rfl⟩
  obtain ⟨dn, hdn⟩ : ∃ dn : Int, dn = (dv : Int) := ⟨_, rfl⟩
  rw [← hfn, ← hdn] at I9
  have HFN := Lib.hid (And.intro hfn hdn)
  clear hfn hdn
  go_loopw [7, 8] (fun _ _ wr => ∃ l v xs m rr, rulesS S n m l rr = some (lr, re) ∧ Goes S r9 rr ∧ l.length ≤ 512 ∧ PoD w wr b A cap S rr E a fk fn dk dn l v xs) (fun _ _ wr => 513 - cellLen wr ⟨E, 5, none⟩)
  case atStart => exact ⟨_, _, _, _, _, HJ.out.2.2, .refl HJ.out.1, Nat.zero_le _, I9.out⟩
  case round =>
    obtain ⟨l, v, xs, m, rr, hrest, hgo, hll, hT⟩ := hrel
    obtain ⟨m, rfl⟩ : ∃ m', m = m' + 1 := ⟨m - 1, by
      rcases m with _ | m
      · cases hrest
      · rfl⟩
    obtain ⟨Av, nv, cv, rfl⟩ := own_form hT.own
    have hnv : nv = l.length := own_len hT.own
    have HT := Lib.hid hT
    have HCL : Hid (cellLen wr ⟨E, 5, none⟩ = l.length) := Lib.hid (by
      have h0 : wr.cell? ⟨E, 5, none⟩ = some (.slice Av nv cv) := cell6 HT.out.box 5 rfl
      unfold cellLen
      rw [h0]
      exact own_len HT.out.own)
    have hdeep : rr.deep = 0 := hgo.deep.trans HJ.out.2.1
    have c5 : wr.cell? ⟨b, 5, none⟩ = some (.int .i64 rr.err) := World.rowIs.cell HT.out.rd.row (i := 5) (by decide)
    have gA := goes_peek hgo.j
    have gB := goes_is gA.j 2 (by decide) bOn
    have hjl := hgo.j.le
    have hjl2 := gA.j.le
    have HPk := Lib.hid (fun W hW => rd6_peek W b A cap S rr hW)
    have hIs : ∀ W, RdAt W b A cap S (rr.peekR S) → Calls Tryz.prog 39 #[.pointer (some ⟨b, 0, none⟩), .int .i64 2, .string ⟨#[111, 110]⟩] W (RdP W b A cap S (.bool ((rr.peekR S).isB S 2 bOn)) ((rr.peekR S).isR S 2 bOn)) := fun W hW => rd6_is W b A cap S _ hW 2 ⟨#[111, 110]⟩ (by omega)
    have hFa := fun W hW => rd6_fails W b A cap S ((rr.peekR S).isR S 2 bOn) hW 63 (rr.peekT S).pos
    have hRu := fun (x : Ru) (r' : Rd) (hx : ruleS S n ((rr.peekR S).isR S 2 bOn) = some (x, r')) W hW => rd6_ruleS (w := W) (b := b) (A := A) (cap := cap) gB.j (by rw [gB.deep, gA.deep]; exact hdeep) hW hx
    unfold rulesS at hrest
    clear I9 hT
    by_cases he : rr.err = 0
    · have heb : (rr.err == 0) = true := beq_iff_eq.2 he
      rw [if_neg (fun g => g he)] at hrest
      clear he
      have hTE : ∀ k, (Array.size wr.heap) = k → E < k := fun k hk => by subst hk; exact HT.out.size
      generalize hqq : rr.peekT S = q at HPk hFa hrest
      generalize hrp : rr.peekR S = rp at HPk hIs hFa hRu hrest gA gB
      clear hqq hrp
      by_cases hb : rp.isB S 2 bOn = true
      · rw [if_pos hb] at hrest
        rw [hb] at hIs
        by_cases h5 : l.length = 512
        · rw [if_pos h5] at hrest
          injection hrest with hrest
          injection hrest with e1 e2
          subst e1
          subst e2
          have h5b : ((nv : Int) == 512) = true := by rw [hnv, h5]; rfl
          have h5c : (nv == 512) = true := by rw [hnv, h5]; rfl
          have HIs := Lib.hid hIs
          have HFa := Lib.hid hFa
          clear h5 hb hIs hFa hRu hgo hll hjl hjl2 hdeep hnv
          generalize rp.isR S 2 bOn = ri at HIs HFa HK gB
          clear gA gB
          go_wp2_with (first
            | (go_at_call 38; (with_reducible refine (HPk.out _ HT.out.rd).mono ?_); rintro e w1 ⟨rfl, hr1, hg1⟩; have HN := Lib.hid (HT.out.call hr1 hg1); have HTB : Hid ((w1.alloc (tkO q)).heap[w1.heap.size]? = some (tkO q)) := Lib.hid (World.alloc_heap_new w1 (tkO q)); have H1 : Hid (PoD w (w1.alloc (tkO q)) b A cap S rp E a fk fn dk dn l (.slice Av nv cv) xs) := Lib.hid (HN.out.alloc (tkO q)); have H1b : Hid (b < w1.heap.size) := Lib.hid hr1.row.lt; clear hr1 hg1 HN)
            | (go_at_call 39; (with_reducible refine (HIs.out _ H1.out.rd).mono ?_); rintro e w3 ⟨rfl, hr3, hg3⟩; have H3 : Hid (PoD w w3 b A cap S ri E a fk fn dk dn l (.slice Av nv cv) xs ∧ w3.heap[w1.heap.size]? = some (tkO q)) := Lib.hid ⟨H1.out.call hr3 hg3, kept_box HTB.out hg3 (by have h1 := H1b.out; omega)⟩; have f5 := cell6 H3.out.1.box 5 rfl; have p3 := cell6 H3.out.2 3 rfl; clear hr3 hg3 H1 HTB)
            | (go_at_call 40; (with_reducible refine (HFa.out _ H3.out.1.rd).mono ?_); rintro e w4 ⟨rfl, hr4, hg4⟩; have H4 := Lib.hid (H3.out.1.call hr4 hg4); clear hr4 hg4)
            | (go_at_call 36; (with_reducible refine (HK.out _ H4.out.rd).mono ?_); rintro e w5 ⟨rfl, hr5, hg5⟩; have H5 := Lib.hid (H4.out.call hr5 hg5); have c5 : w5.cell? ⟨b, 5, none⟩ = some (.int .i64 0) := (World.rowIs.cell H5.out.rd.row (i := 5) (by decide)).trans (by show some (Value.int .i64 r2.err) = _; rw [HO.out]); have c6 : w5.cell? ⟨b, 6, none⟩ = some (.int .i64 (r2.bad : Int)) := World.rowIs.cell H5.out.rd.row (i := 6) (by decide); have hE5 := H5.out.box; have hR5 := H5.out.res; have hlw : w.heap.size < w5.heap.size := (Array.getElem?_eq_some_iff.1 hR5).1; have m0 := cell6 hE5 0 rfl; have m1 := cell6 hE5 1 rfl; have m2 := cell6 hE5 2 rfl; have m3 := cell6 hE5 3 rfl; have m4 := cell6 hE5 4 rfl; have m5 := cell6 hE5 5 rfl; have u0 := cell6 hR5 0 rfl; have u1 := cell6 hR5 1 rfl; have u2 := cell6 hR5 2 rfl; have u3 := cell6 hR5 3 rfl; have u4 := cell6 hR5 4 rfl; have u5 := cell6 hR5 5 rfl; have y0 := frozen6 hR5 0; have y1 := frozen6 hR5 1; have y2 := frozen6 hR5 2; have y3 := frozen6 hR5 3; have y4 := frozen6 hR5 4; have y5 := frozen6 hR5 5; clear hr5 hg5 hE5 hR5))
          exact bodyPost_ret (v := .tuple #[poV a fk fn dk dn (.slice Av nv cv), .int .i64 0, .int .i64 0]) (by simp [results, Tryz.results14, go_sem, u0, u1, u2, u3, u4, u5, World.cell?_setCell_same']) rfl ⟨_, rfl, ⟨.slice Av nv cv, by rw [HFN.out.1, HFN.out.2], rules_set6 H5.out.rules (by have h1 := H5.out.wb; have h2 := H5.out.bE; omega) _ _ _ _ _ _⟩, (((((H5.out.bel.setCell (p := ⟨w.heap.size, 0, none⟩) (Nat.le_refl _) _).setCell (p := ⟨w.heap.size, 1, none⟩) (Nat.le_refl _) _).setCell (p := ⟨w.heap.size, 2, none⟩) (Nat.le_refl _) _).setCell (p := ⟨w.heap.size, 3, none⟩) (Nat.le_refl _) _).setCell (p := ⟨w.heap.size, 4, none⟩) (Nat.le_refl _) _).setCell (p := ⟨w.heap.size, 5, none⟩) (Nat.le_refl _) _⟩
        · rw [if_neg h5] at hrest
          have h5b : ((nv : Int) == 512) = false := beq_false_of_ne (by omega)
          have h5c : (nv == 512) = false := beq_false_of_ne (by omega)
          cases hxr : ruleS S n (rp.isR S 2 bOn) with
          | none => rw [hxr] at hrest; cases hrest
          | some y =>
            obtain ⟨xr, r4⟩ := y
            rw [hxr] at hrest
            have gR := goes_rule gB.j hxr
            have HRS : Hid (rulesS S n m (l ++ [xr]) r4 = some (lr, re)) := Lib.hid hrest
            have HJ2 : Hid (Goes S r9 r4) := Lib.hid (((hgo.trans gA).trans gB).trans gR)
            have HLL : Hid ((l ++ [xr]).length ≤ 512) := Lib.hid (by rw [List.length_append]; simp only [List.length_cons, List.length_nil]; omega)
            have HRu := Lib.hid (hRu xr r4 hxr)
            have HIs := Lib.hid hIs
            clear hrest hb hIs hFa hRu hgo hjl hjl2 hdeep gR hxr HK hnv
            generalize rp.isR S 2 bOn = ri at HIs HRu gB
            clear gA gB
            go_wp2_with (first
              | (go_at_call 38; (with_reducible refine (HPk.out _ HT.out.rd).mono ?_); rintro e w1 ⟨rfl, hr1, hg1⟩; have HN := Lib.hid (HT.out.call hr1 hg1); have HTB : Hid ((w1.alloc (tkO q)).heap[w1.heap.size]? = some (tkO q)) := Lib.hid (World.alloc_heap_new w1 (tkO q)); have H1 : Hid (PoD w (w1.alloc (tkO q)) b A cap S rp E a fk fn dk dn l (.slice Av nv cv) xs) := Lib.hid (HN.out.alloc (tkO q)); have H1b : Hid (b < w1.heap.size) := Lib.hid hr1.row.lt; clear hr1 hg1 HN)
              | (go_at_call 39; (with_reducible refine (HIs.out _ H1.out.rd).mono ?_); rintro e w3 ⟨rfl, hr3, hg3⟩; have H3 : Hid (PoD w w3 b A cap S ri E a fk fn dk dn l (.slice Av nv cv) xs ∧ w3.heap[w1.heap.size]? = some (tkO q)) := Lib.hid ⟨H1.out.call hr3 hg3, kept_box HTB.out hg3 (by have h1 := H1b.out; omega)⟩; have f5 := cell6 H3.out.1.box 5 rfl; have p3 := cell6 H3.out.2 3 rfl; clear hr3 hg3 H1 HTB))
            refine wp_region_held_drew (S := fun _ => True) (by kernel_rfl) trivial (fun _ => ?_)
            have HY : Hid (PoD w w3.drew b A cap S ri E a fk fn dk dn l (.slice Av nv cv) xs) := Lib.hid (H3.out.1.drawn 1)
            clear H3
            generalize w3.drew = Y at HY ⊢
            have hby : Y.cell? ⟨E, 5, none⟩ = some (.slice Av nv cv) := cell6 HY.out.box 5 rfl
            refine wpAnyH_take (i := 0) (v := ?_) rfl (by kernel_rfl) (by kernel_rfl) (by kernel_rfl) (fun _ _ _ h => h) (Or.inl ⟨by rfl, ?_⟩) (by assumption) ?_
            rotate_left
            · intro wS hSw
              (skip)
              go_simp
              all_goals with_reducible rfl
            (try simp only [List.getElem_toArray, List.getElem_cons_zero, List.getElem_cons_succ, Act.put, List.setIfInBounds_toArray, List.set_cons_zero, List.set_cons_succ])
            refine wpAnyH_take (i := 2) (v := ?_) rfl (by kernel_rfl) (by kernel_rfl) (by kernel_rfl) (fun _ _ _ h => h) (Or.inl ⟨by rfl, ?_⟩) (by assumption) ?_
            rotate_left
            · intro wS hSw
              (skip)
              go_simp
              all_goals with_reducible rfl
            (try simp only [List.getElem_toArray, List.getElem_cons_zero, List.getElem_cons_succ, Act.put, List.setIfInBounds_toArray, List.set_cons_zero, List.set_cons_succ])
            refine wpAnyH_ready (rs := [1, 3]) (by kernel_rfl) (by simp) (AllReadyH.cons rfl (fun K hK => ?_) (AllReadyH.cons rfl (fun K hK => ?_) AllReadyH.nil))
            · go_simp
              refine hK.out _ _ trivial (fun _ => ?_)
              clear hK K
              (try simp only [Act.put, List.setIfInBounds_toArray, List.set_cons_zero, List.set_cons_succ, List.getElem_toArray, List.getElem_cons_zero, List.getElem_cons_succ])
              refine held_one (i := 3) (by kernel_rfl) rfl (fun K hK => ?_)
              go_simp
              go_at_call 41
              refine (HRu.out _ HY.out.rd).mono ?_
              rintro e w4 ⟨rv, rfl, ⟨tb, capc, Ax, cx, rfl, hxr⟩, hr4, hg4⟩
              have HZ := Lib.hid (HY.out.call hr4 hg4)
              have HXR : Hid (RuIn w4 (fun k => E + 1 ≤ k ∧ some k ≠ (Value.slice Av nv cv).ownBlock) xr tb Ax cx) := Lib.hid (hxr.keep (Nat.le_refl _) (fun k hk => ⟨by have := HY.out.size; omega, fun e => by have := (HY.out.own.lt k e.symm).2; omega⟩) (fun _ _ _ => rfl))
              have hbz : w4.cell? ⟨E, 5, none⟩ = some (.slice Av nv cv) := cell6 HZ.out.box 5 rfl
              refine hK.out _ _ trivial (fun _ => ?_)
              clear hK K hr4 hg4 hxr
              (try simp only [Act.put, List.setIfInBounds_toArray, List.set_cons_zero, List.set_cons_succ, List.getElem_toArray, List.getElem_cons_zero, List.getElem_cons_succ])
              refine held_one (i := 4) (by kernel_rfl) rfl (fun K hK => ?_)
              go_simp
              refine hK.out _ _ trivial (fun _ => ?_)
              clear hK K
              (try simp only [Act.put, List.setIfInBounds_toArray, List.set_cons_zero, List.set_cons_succ, List.getElem_toArray, List.getElem_cons_zero, List.getElem_cons_succ])
              refine held_one (i := 5) (by kernel_rfl) rfl (fun K hK => ?_)
              rw [if_pos (by kernel_rfl)]
              refine oper_append6 (.tmp 53) (.tmp 56) 27 rfl (E + 1) 88 i8 (.agg #[.slice none 0 0, .int .i64 0, .slice none 0 0, .int .i64 0, .int .u64 0, .int .i64 0, .int .u64 0, .int .i64 0, .int .u64 0]) 9 104 Tryz.underlying27 hi8 hz8 hs8 hb8 rfl (by decide) (.slice Av nv cv) l.length xs rfl (own_below HZ.out.own (lbox w4 _)) ⟨w4.heap.size, 0, none⟩ 1 1 (ruC xr tb capc Ax cx) rfl rfl (ru_cells _ _ rfl _ _ _ _ _) ru_one (by unfold maxLen; omega) (by omega) (by have := HZ.out.size; simp; omega) ?_
              intro v' wd ho hg hv
              obtain ⟨A', n', c', rfl⟩ := own_form ho
              have HW := Lib.hid (HZ.out.turn HXR.out ho hg hv)
              refine hK.out _ _ trivial (fun _ => ?_)
              clear hK K ho hg hv
              (try simp only [Act.put, List.setIfInBounds_toArray, List.set_cons_zero, List.set_cons_succ, List.getElem_toArray, List.getElem_cons_zero, List.getElem_cons_succ])
              have hbE := HW.out.2
              have hlE : E < wd.heap.size := (Array.getElem?_eq_some_iff.1 hbE).1
              have q0 := cell6 hbE 5 rfl
              have q0f := frozen6 hbE 5
              refine wpAnyH_take (i := 6) (v := ?_) rfl (by kernel_rfl) (by kernel_rfl) (by kernel_rfl) (fun _ _ _ h => h) (Or.inl ⟨by rfl, ?_⟩) (by assumption) ?_
              rotate_left
              · intro wS hSw
                (skip)
                go_simp
                all_goals with_reducible rfl
              (try simp only [List.getElem_toArray, List.getElem_cons_zero, List.getElem_cons_succ, Act.put, List.setIfInBounds_toArray, List.set_cons_zero, List.set_cons_succ])
              refine held_one (i := 7) (by kernel_rfl) rfl (fun K hK => ?_)
              go_simp
              refine hK.out _ _ trivial (fun _ => ?_)
              clear hK K hbE hlE q0 q0f
              refine wpAnyH_done (by kernel_rfl) ?_ _
              have HX := Lib.hid HW.out.1
              clear HW
              generalize wd.setCell ⟨E, 5, none⟩ (.slice A' n' c') = wx at HX ⊢
              go_wp2
              exact ⟨⟨_, _, _, _, _, HRS.out, HJ2.out, HLL.out, HX.out⟩, by
                have h0 : wx.cell? ⟨E, 5, none⟩ = some (.slice A' n' c') := cell6 HX.out.box 5 rfl
                have h1 := own_len HX.out.own
                have h2 := HLL.out
                rw [HCL.out]
                unfold cellLen
                rw [h0]
                simp only [h1]
                rw [List.length_append] at h2 ⊢
                simp only [List.length_cons, List.length_nil] at h2 ⊢
                omega⟩
            · go_simp
              go_at_call 41
              refine (HRu.out _ HY.out.rd).mono ?_
              rintro e w4 ⟨rv, rfl, ⟨tb, capc, Ax, cx, rfl, hxr⟩, hr4, hg4⟩
              have HZ := Lib.hid (HY.out.call hr4 hg4)
              have HXR : Hid (RuIn w4 (fun k => E + 1 ≤ k ∧ some k ≠ (Value.slice Av nv cv).ownBlock) xr tb Ax cx) := Lib.hid (hxr.keep (Nat.le_refl _) (fun k hk => ⟨by have := HY.out.size; omega, fun e => by have := (HY.out.own.lt k e.symm).2; omega⟩) (fun _ _ _ => rfl))
              have hbz : w4.cell? ⟨E, 5, none⟩ = some (.slice Av nv cv) := cell6 HZ.out.box 5 rfl
              refine hK.out _ _ trivial (fun _ => ?_)
              clear hK K hr4 hg4 hxr
              (try simp only [Act.put, List.setIfInBounds_toArray, List.set_cons_zero, List.set_cons_succ, List.getElem_toArray, List.getElem_cons_zero, List.getElem_cons_succ])
              refine wpAnyH_ready (rs := [1, 4]) (by kernel_rfl) (by simp) (AllReadyH.cons rfl (fun K hK => ?_) (AllReadyH.cons rfl (fun K hK => ?_) AllReadyH.nil))
              · go_simp
                refine hK.out _ _ trivial (fun _ => ?_)
                clear hK K
                (try simp only [Act.put, List.setIfInBounds_toArray, List.set_cons_zero, List.set_cons_succ, List.getElem_toArray, List.getElem_cons_zero, List.getElem_cons_succ])
                refine held_one (i := 4) (by kernel_rfl) rfl (fun K hK => ?_)
                go_simp
                refine hK.out _ _ trivial (fun _ => ?_)
                clear hK K
                (try simp only [Act.put, List.setIfInBounds_toArray, List.set_cons_zero, List.set_cons_succ, List.getElem_toArray, List.getElem_cons_zero, List.getElem_cons_succ])
                refine held_one (i := 5) (by kernel_rfl) rfl (fun K hK => ?_)
                rw [if_pos (by kernel_rfl)]
                refine oper_append6 (.tmp 53) (.tmp 56) 27 rfl (E + 1) 88 i8 (.agg #[.slice none 0 0, .int .i64 0, .slice none 0 0, .int .i64 0, .int .u64 0, .int .i64 0, .int .u64 0, .int .i64 0, .int .u64 0]) 9 104 Tryz.underlying27 hi8 hz8 hs8 hb8 rfl (by decide) (.slice Av nv cv) l.length xs rfl (own_below HZ.out.own (lbox w4 _)) ⟨w4.heap.size, 0, none⟩ 1 1 (ruC xr tb capc Ax cx) rfl rfl (ru_cells _ _ rfl _ _ _ _ _) ru_one (by unfold maxLen; omega) (by omega) (by have := HZ.out.size; simp; omega) ?_
                intro v' wd ho hg hv
                obtain ⟨A', n', c', rfl⟩ := own_form ho
                have HW := Lib.hid (HZ.out.turn HXR.out ho hg hv)
                refine hK.out _ _ trivial (fun _ => ?_)
                clear hK K ho hg hv
                (try simp only [Act.put, List.setIfInBounds_toArray, List.set_cons_zero, List.set_cons_succ, List.getElem_toArray, List.getElem_cons_zero, List.getElem_cons_succ])
                have hbE := HW.out.2
                have hlE : E < wd.heap.size := (Array.getElem?_eq_some_iff.1 hbE).1
                have q0 := cell6 hbE 5 rfl
                have q0f := frozen6 hbE 5
                refine wpAnyH_take (i := 6) (v := ?_) rfl (by kernel_rfl) (by kernel_rfl) (by kernel_rfl) (fun _ _ _ h => h) (Or.inl ⟨by rfl, ?_⟩) (by assumption) ?_
                rotate_left
                · intro wS hSw
                  (skip)
                  go_simp
                  all_goals with_reducible rfl
                (try simp only [List.getElem_toArray, List.getElem_cons_zero, List.getElem_cons_succ, Act.put, List.setIfInBounds_toArray, List.set_cons_zero, List.set_cons_succ])
                refine held_one (i := 7) (by kernel_rfl) rfl (fun K hK => ?_)
                go_simp
                refine hK.out _ _ trivial (fun _ => ?_)
                clear hK K hbE hlE q0 q0f
                refine wpAnyH_done (by kernel_rfl) ?_ _
                have HX := Lib.hid HW.out.1
                clear HW
                generalize wd.setCell ⟨E, 5, none⟩ (.slice A' n' c') = wx at HX ⊢
                go_wp2
                exact ⟨⟨_, _, _, _, _, HRS.out, HJ2.out, HLL.out, HX.out⟩, by
                  have h0 : wx.cell? ⟨E, 5, none⟩ = some (.slice A' n' c') := cell6 HX.out.box 5 rfl
                  have h1 := own_len HX.out.own
                  have h2 := HLL.out
                  rw [HCL.out]
                  unfold cellLen
                  rw [h0]
                  simp only [h1]
                  rw [List.length_append] at h2 ⊢
                  simp only [List.length_cons, List.length_nil] at h2 ⊢
                  omega⟩
              · go_simp
                refine hK.out _ _ trivial (fun _ => ?_)
                clear hK K
                (try simp only [Act.put, List.setIfInBounds_toArray, List.set_cons_zero, List.set_cons_succ, List.getElem_toArray, List.getElem_cons_zero, List.getElem_cons_succ])
                have hba : ∀ o, (w4.alloc o).cell? ⟨E, 5, none⟩ = some (.slice Av nv cv) := fun o => cell6 (kept_alloc HZ.out.box o) 5 rfl
                refine held_one (i := 1) (by kernel_rfl) rfl (fun K hK => ?_)
                go_simp
                refine hK.out _ _ trivial (fun _ => ?_)
                clear hK K
                (try simp only [Act.put, List.setIfInBounds_toArray, List.set_cons_zero, List.set_cons_succ, List.getElem_toArray, List.getElem_cons_zero, List.getElem_cons_succ])
                refine held_one (i := 5) (by kernel_rfl) rfl (fun K hK => ?_)
                rw [if_pos (by kernel_rfl)]
                refine oper_append6 (.tmp 53) (.tmp 56) 27 rfl (E + 1) 88 i8 (.agg #[.slice none 0 0, .int .i64 0, .slice none 0 0, .int .i64 0, .int .u64 0, .int .i64 0, .int .u64 0, .int .i64 0, .int .u64 0]) 9 104 Tryz.underlying27 hi8 hz8 hs8 hb8 rfl (by decide) (.slice Av nv cv) l.length xs rfl (own_below HZ.out.own (lbox w4 _)) ⟨w4.heap.size, 0, none⟩ 1 1 (ruC xr tb capc Ax cx) rfl rfl (ru_cells _ _ rfl _ _ _ _ _) ru_one (by unfold maxLen; omega) (by omega) (by have := HZ.out.size; simp; omega) ?_
                intro v' wd ho hg hv
                obtain ⟨A', n', c', rfl⟩ := own_form ho
                have HW := Lib.hid (HZ.out.turn HXR.out ho hg hv)
                refine hK.out _ _ trivial (fun _ => ?_)
                clear hK K ho hg hv
                (try simp only [Act.put, List.setIfInBounds_toArray, List.set_cons_zero, List.set_cons_succ, List.getElem_toArray, List.getElem_cons_zero, List.getElem_cons_succ])
                have hbE := HW.out.2
                have hlE : E < wd.heap.size := (Array.getElem?_eq_some_iff.1 hbE).1
                have q0 := cell6 hbE 5 rfl
                have q0f := frozen6 hbE 5
                refine wpAnyH_take (i := 6) (v := ?_) rfl (by kernel_rfl) (by kernel_rfl) (by kernel_rfl) (fun _ _ _ h => h) (Or.inl ⟨by rfl, ?_⟩) (by assumption) ?_
                rotate_left
                · intro wS hSw
                  (skip)
                  go_simp
                  all_goals with_reducible rfl
                (try simp only [List.getElem_toArray, List.getElem_cons_zero, List.getElem_cons_succ, Act.put, List.setIfInBounds_toArray, List.set_cons_zero, List.set_cons_succ])
                refine held_one (i := 7) (by kernel_rfl) rfl (fun K hK => ?_)
                go_simp
                refine hK.out _ _ trivial (fun _ => ?_)
                clear hK K hbE hlE q0 q0f
                refine wpAnyH_done (by kernel_rfl) ?_ _
                have HX := Lib.hid HW.out.1
                clear HW
                generalize wd.setCell ⟨E, 5, none⟩ (.slice A' n' c') = wx at HX ⊢
                go_wp2
                exact ⟨⟨_, _, _, _, _, HRS.out, HJ2.out, HLL.out, HX.out⟩, by
                  have h0 : wx.cell? ⟨E, 5, none⟩ = some (.slice A' n' c') := cell6 HX.out.box 5 rfl
                  have h1 := own_len HX.out.own
                  have h2 := HLL.out
                  rw [HCL.out]
                  unfold cellLen
                  rw [h0]
                  simp only [h1]
                  rw [List.length_append] at h2 ⊢
                  simp only [List.length_cons, List.length_nil] at h2 ⊢
                  omega⟩
      · have hbf : rp.isB S 2 bOn = false := by cases hq : rp.isB S 2 bOn with
          | true => exact absurd hq hb
          | false => rfl
        rw [if_neg hb] at hrest
        rw [hbf] at hIs
        injection hrest with hrest
        injection hrest with e1 e2
        subst e1
        subst e2
        have HIs := Lib.hid hIs
        clear hb hbf hIs hFa hRu hgo hll hjl hjl2 hdeep hnv
        generalize rp.isR S 2 bOn = ri at HIs HK gB
        clear gA gB
        go_wp2_with (first
          | (go_at_call 38; (with_reducible refine (HPk.out _ HT.out.rd).mono ?_); rintro e w1 ⟨rfl, hr1, hg1⟩; have HN := Lib.hid (HT.out.call hr1 hg1); have HTB : Hid ((w1.alloc (tkO q)).heap[w1.heap.size]? = some (tkO q)) := Lib.hid (World.alloc_heap_new w1 (tkO q)); have H1 : Hid (PoD w (w1.alloc (tkO q)) b A cap S rp E a fk fn dk dn l (.slice Av nv cv) xs) := Lib.hid (HN.out.alloc (tkO q)); have H1b : Hid (b < w1.heap.size) := Lib.hid hr1.row.lt; clear hr1 hg1 HN)
          | (go_at_call 39; (with_reducible refine (HIs.out _ H1.out.rd).mono ?_); rintro e w3 ⟨rfl, hr3, hg3⟩; have H3 : Hid (PoD w w3 b A cap S ri E a fk fn dk dn l (.slice Av nv cv) xs ∧ w3.heap[w1.heap.size]? = some (tkO q)) := Lib.hid ⟨H1.out.call hr3 hg3, kept_box HTB.out hg3 (by have h1 := H1b.out; omega)⟩; have f5 := cell6 H3.out.1.box 5 rfl; have p3 := cell6 H3.out.2 3 rfl; clear hr3 hg3 H1 HTB)
          | (go_at_call 36; (with_reducible refine (HK.out _ H3.out.1.rd).mono ?_); rintro e w5 ⟨rfl, hr5, hg5⟩; have H5 := Lib.hid (H3.out.1.call hr5 hg5); have c5 : w5.cell? ⟨b, 5, none⟩ = some (.int .i64 0) := (World.rowIs.cell H5.out.rd.row (i := 5) (by decide)).trans (by show some (Value.int .i64 r2.err) = _; rw [HO.out]); have c6 : w5.cell? ⟨b, 6, none⟩ = some (.int .i64 (r2.bad : Int)) := World.rowIs.cell H5.out.rd.row (i := 6) (by decide); have hE5 := H5.out.box; have hR5 := H5.out.res; have hlw : w.heap.size < w5.heap.size := (Array.getElem?_eq_some_iff.1 hR5).1; have m0 := cell6 hE5 0 rfl; have m1 := cell6 hE5 1 rfl; have m2 := cell6 hE5 2 rfl; have m3 := cell6 hE5 3 rfl; have m4 := cell6 hE5 4 rfl; have m5 := cell6 hE5 5 rfl; have u0 := cell6 hR5 0 rfl; have u1 := cell6 hR5 1 rfl; have u2 := cell6 hR5 2 rfl; have u3 := cell6 hR5 3 rfl; have u4 := cell6 hR5 4 rfl; have u5 := cell6 hR5 5 rfl; have y0 := frozen6 hR5 0; have y1 := frozen6 hR5 1; have y2 := frozen6 hR5 2; have y3 := frozen6 hR5 3; have y4 := frozen6 hR5 4; have y5 := frozen6 hR5 5; clear hr5 hg5 hE5 hR5))
        exact bodyPost_ret (v := .tuple #[poV a fk fn dk dn (.slice Av nv cv), .int .i64 0, .int .i64 0]) (by simp [results, Tryz.results14, go_sem, u0, u1, u2, u3, u4, u5, World.cell?_setCell_same']) rfl ⟨_, rfl, ⟨.slice Av nv cv, by rw [HFN.out.1, HFN.out.2], rules_set6 H5.out.rules (by have h1 := H5.out.wb; have h2 := H5.out.bE; omega) _ _ _ _ _ _⟩, (((((H5.out.bel.setCell (p := ⟨w.heap.size, 0, none⟩) (Nat.le_refl _) _).setCell (p := ⟨w.heap.size, 1, none⟩) (Nat.le_refl _) _).setCell (p := ⟨w.heap.size, 2, none⟩) (Nat.le_refl _) _).setCell (p := ⟨w.heap.size, 3, none⟩) (Nat.le_refl _) _).setCell (p := ⟨w.heap.size, 4, none⟩) (Nat.le_refl _) _).setCell (p := ⟨w.heap.size, 5, none⟩) (Nat.le_refl _) _⟩
    · have heb : (rr.err == 0) = false := beq_false_of_ne he
      rw [if_pos he] at hrest
      injection hrest with hrest
      injection hrest with e1 e2
      subst e1
      subst e2
      clear he hIs hFa hRu hgo hll hjl hjl2 hdeep gA gB HPk hnv
      go_wp2_with (first
        | (go_at_call 36; (with_reducible refine (HK.out _ HT.out.rd).mono ?_); rintro e w5 ⟨rfl, hr5, hg5⟩; have H5 := Lib.hid (HT.out.call hr5 hg5); have c5 : w5.cell? ⟨b, 5, none⟩ = some (.int .i64 0) := (World.rowIs.cell H5.out.rd.row (i := 5) (by decide)).trans (by show some (Value.int .i64 r2.err) = _; rw [HO.out]); have c6 : w5.cell? ⟨b, 6, none⟩ = some (.int .i64 (r2.bad : Int)) := World.rowIs.cell H5.out.rd.row (i := 6) (by decide); have hE5 := H5.out.box; have hR5 := H5.out.res; have hlw : w.heap.size < w5.heap.size := (Array.getElem?_eq_some_iff.1 hR5).1; have m0 := cell6 hE5 0 rfl; have m1 := cell6 hE5 1 rfl; have m2 := cell6 hE5 2 rfl; have m3 := cell6 hE5 3 rfl; have m4 := cell6 hE5 4 rfl; have m5 := cell6 hE5 5 rfl; have u0 := cell6 hR5 0 rfl; have u1 := cell6 hR5 1 rfl; have u2 := cell6 hR5 2 rfl; have u3 := cell6 hR5 3 rfl; have u4 := cell6 hR5 4 rfl; have u5 := cell6 hR5 5 rfl; have y0 := frozen6 hR5 0; have y1 := frozen6 hR5 1; have y2 := frozen6 hR5 2; have y3 := frozen6 hR5 3; have y4 := frozen6 hR5 4; have y5 := frozen6 hR5 5; clear hr5 hg5 hE5 hR5))
      exact bodyPost_ret (v := .tuple #[poV a fk fn dk dn (.slice Av nv cv), .int .i64 0, .int .i64 0]) (by simp [results, Tryz.results14, go_sem, u0, u1, u2, u3, u4, u5, World.cell?_setCell_same']) rfl ⟨_, rfl, ⟨.slice Av nv cv, by rw [HFN.out.1, HFN.out.2], rules_set6 H5.out.rules (by have h1 := H5.out.wb; have h2 := H5.out.bE; omega) _ _ _ _ _ _⟩, (((((H5.out.bel.setCell (p := ⟨w.heap.size, 0, none⟩) (Nat.le_refl _) _).setCell (p := ⟨w.heap.size, 1, none⟩) (Nat.le_refl _) _).setCell (p := ⟨w.heap.size, 2, none⟩) (Nat.le_refl _) _).setCell (p := ⟨w.heap.size, 3, none⟩) (Nat.le_refl _) _).setCell (p := ⟨w.heap.size, 4, none⟩) (Nat.le_refl _) _).setCell (p := ⟨w.heap.size, 5, none⟩) (Nat.le_refl _) _⟩
set_option maxHeartbeats 8000000 in
set_option maxRecDepth 100000 in
theorem rd6_Parse_bad (s : ByteArray) (w : World) (hm : s.size ≤ maxLen) (n : Nat) (lr : List Ru) (re : Rd) (h1 : rulesS (srcF s) n n [] (q9 (srcF s) ⟨0, 0, 0, 0⟩) = some (lr, re)) (hok : (re.kindR (srcF s) 1).err ≠ 0)
    (a : ByteArray) (fk dk : Int) (fv dv : Nat) (ha : ((q1 (srcF s) ⟨0, 0, 0, 0⟩).kindT (srcF s) 2).text = a) (hf : verdT (srcF s) (q4 (srcF s) ⟨0, 0, 0, 0⟩) = (fk, fv)) (hd : verdT (srcF s) (q7 (srcF s) ⟨0, 0, 0, 0⟩) = (dk, dv)) :
    Calls Tryz.prog 14 #[.string s] w (ParseP (PoP w.heap.size) (poV ⟨#[]⟩ 0 0 0 0 (.slice none 0 0)) w (.bad (re.kindR (srcF s) 1).err (re.kindR (srcF s) 1).bad)) := by
  have hsm := src_small s
  have s0 : (w.alloc (poO ⟨#[]⟩ 0 0 0 0 (.slice none 0 0))).heap.size = w.heap.size + 1 := by simp
  have HD : Hid (Calls Tryz.prog 34 #[.string s] (w.alloc (poO ⟨#[]⟩ 0 0 0 0 (.slice none 0 0))) (fun e w' => ∃ b A cap, e = .returned (.pointer (some ⟨b, 0, none⟩)) ∧ RdAt w' b A cap (srcF s) ⟨0, 0, 0, 0⟩ ∧ Below (w.heap.size + 1) (w.alloc (poO ⟨#[]⟩ 0 0 0 0 (.slice none 0 0))) w' ∧ w.heap.size + 1 ≤ b)) := Lib.hid (by
    have h := rd6_reader s (w.alloc (poO ⟨#[]⟩ 0 0 0 0 (.slice none 0 0))) hm hsm
    unfold ReaderP at h
    rw [s0] at h
    exact h)
  have h00 : J (srcF s) ⟨0, 0, 0, 0⟩ := ⟨Nat.zero_le _, fun _ => Nat.zero_le _⟩
  obtain ⟨S, hS⟩ : ∃ S, S = srcF s := ⟨_, rfl⟩
  rw [← hS] at h1 hok ha hf hd hsm HD h00
  try rw [← hS]
  clear hS
  obtain ⟨g1, g2, g3, g4, g5, g6, g7, g8, g9⟩ := goes_head (S := S) h00
  have k5 := goes_kind g4.j 2 (by decide)
  have k8 := goes_kind g7.j 2 (by decide)
  have l1 := g1.j.le; have l2 := g2.j.le; have l3 := g3.j.le; have l4 := g4.j.le; have l5 := g5.j.le; have l6 := g6.j.le; have l7 := g7.j.le; have l8 := g8.j.le; have l9 := g9.j.le
  have l5k := k5.j.le; have l8k := k8.j.le
  have C1 : Hid (∀ W b A cap, RdAt W b A cap S ⟨0, 0, 0, 0⟩ → Calls Tryz.prog 35 #[.pointer (some ⟨b, 0, none⟩), .int .i64 2, .string ⟨#[97, 114, 99, 104]⟩] W (RdP W b A cap S (.tuple #[]) (q1 S ⟨0, 0, 0, 0⟩))) := Lib.hid (fun W b A cap hW => rd6_want W b A cap S _ hW 2 ⟨#[97, 114, 99, 104]⟩ (Nat.zero_le _))
  have C2 : Hid (∀ W b A cap, RdAt W b A cap S (q1 S ⟨0, 0, 0, 0⟩) → Calls Tryz.prog 36 #[.pointer (some ⟨b, 0, none⟩), .int .i64 2] W (RdP W b A cap S (.agg #[.int .i64 ((q1 S ⟨0, 0, 0, 0⟩).kindT S 2).kind, .string a, .int .u64 (((q1 S ⟨0, 0, 0, 0⟩).kindT S 2).num : Int), .int .i64 (((q1 S ⟨0, 0, 0, 0⟩).kindT S 2).pos : Int)]) (q2 S ⟨0, 0, 0, 0⟩))) := Lib.hid (fun W b A cap hW => by rw [← ha]; exact rd6_kind W b A cap S _ hW 2 (by omega))
  have C3 : Hid (∀ W b A cap, RdAt W b A cap S (q2 S ⟨0, 0, 0, 0⟩) → Calls Tryz.prog 35 #[.pointer (some ⟨b, 0, none⟩), .int .i64 4, .string ⟨#[59]⟩] W (RdP W b A cap S (.tuple #[]) (q3 S ⟨0, 0, 0, 0⟩))) := Lib.hid (fun W b A cap hW => rd6_want W b A cap S _ hW 4 ⟨#[59]⟩ (by omega))
  have C4 : Hid (∀ W b A cap, RdAt W b A cap S (q3 S ⟨0, 0, 0, 0⟩) → Calls Tryz.prog 35 #[.pointer (some ⟨b, 0, none⟩), .int .i64 2, .string ⟨#[102, 111, 114, 101, 105, 103, 110]⟩] W (RdP W b A cap S (.tuple #[]) (q4 S ⟨0, 0, 0, 0⟩))) := Lib.hid (fun W b A cap hW => rd6_want W b A cap S _ hW 2 ⟨#[102, 111, 114, 101, 105, 103, 110]⟩ (by omega))
  have C5 : Hid (∀ W b A cap, RdAt W b A cap S (q4 S ⟨0, 0, 0, 0⟩) → Calls Tryz.prog 37 #[.pointer (some ⟨b, 0, none⟩)] W (RdP W b A cap S (.agg #[.int .i64 fk, .int .u64 (fv : Int)]) (q5 S ⟨0, 0, 0, 0⟩))) := Lib.hid (fun W b A cap hW => by have := rd6_verdict W b A cap S _ hW (by omega) (by omega); rw [hf] at this; exact this)
  have C6 : Hid (∀ W b A cap, RdAt W b A cap S (q5 S ⟨0, 0, 0, 0⟩) → Calls Tryz.prog 35 #[.pointer (some ⟨b, 0, none⟩), .int .i64 4, .string ⟨#[59]⟩] W (RdP W b A cap S (.tuple #[]) (q6 S ⟨0, 0, 0, 0⟩))) := Lib.hid (fun W b A cap hW => rd6_want W b A cap S _ hW 4 ⟨#[59]⟩ (by omega))
  have C7 : Hid (∀ W b A cap, RdAt W b A cap S (q6 S ⟨0, 0, 0, 0⟩) → Calls Tryz.prog 35 #[.pointer (some ⟨b, 0, none⟩), .int .i64 2, .string ⟨#[100, 101, 102, 97, 117, 108, 116]⟩] W (RdP W b A cap S (.tuple #[]) (q7 S ⟨0, 0, 0, 0⟩))) := Lib.hid (fun W b A cap hW => rd6_want W b A cap S _ hW 2 ⟨#[100, 101, 102, 97, 117, 108, 116]⟩ (by omega))
  have C8 : Hid (∀ W b A cap, RdAt W b A cap S (q7 S ⟨0, 0, 0, 0⟩) → Calls Tryz.prog 37 #[.pointer (some ⟨b, 0, none⟩)] W (RdP W b A cap S (.agg #[.int .i64 dk, .int .u64 (dv : Int)]) (q8 S ⟨0, 0, 0, 0⟩))) := Lib.hid (fun W b A cap hW => by have := rd6_verdict W b A cap S _ hW (by omega) (by omega); rw [hd] at this; exact this)
  have C9 : Hid (∀ W b A cap, RdAt W b A cap S (q8 S ⟨0, 0, 0, 0⟩) → Calls Tryz.prog 35 #[.pointer (some ⟨b, 0, none⟩), .int .i64 4, .string ⟨#[59]⟩] W (RdP W b A cap S (.tuple #[]) (q9 S ⟨0, 0, 0, 0⟩))) := Lib.hid (fun W b A cap hW => rd6_want W b A cap S _ hW 4 ⟨#[59]⟩ (by omega))
  have gE := goes_rules (S := S) n [] _ _ g9.j h1
  have HK := Lib.hid (fun W b A cap hp => rd6_kind W b A cap S re hp 1 (by have := gE.j.le; simp only at this; omega))
  have HO := Lib.hid hok
  have HJ := Lib.hid (And.intro g9.j (And.intro (show (q9 S ⟨0, 0, 0, 0⟩).deep = 0 from g9.deep) h1))
  clear ha hf hd h1 hok g1 g2 g3 g4 g5 g6 g7 g8 g9 k5 k8 l1 l2 l3 l4 l5 l6 l7 l8 l9 l5k l8k gE h00
  generalize q9 S ⟨0, 0, 0, 0⟩ = r9 at C9 HJ
  generalize q8 S ⟨0, 0, 0, 0⟩ = r8 at C8 C9
  generalize q7 S ⟨0, 0, 0, 0⟩ = r7 at C7 C8
  generalize q6 S ⟨0, 0, 0, 0⟩ = r6 at C6 C7
  generalize q5 S ⟨0, 0, 0, 0⟩ = r5 at C5 C6
  generalize q4 S ⟨0, 0, 0, 0⟩ = r4 at C4 C5
  generalize q3 S ⟨0, 0, 0, 0⟩ = r3 at C3 C4
  generalize q2 S ⟨0, 0, 0, 0⟩ = r2' at C2 C3
  generalize (q1 S ⟨0, 0, 0, 0⟩).kindT S 2 = t2 at C2
  generalize q1 S ⟨0, 0, 0, 0⟩ = r1' at C1 C2
  generalize re.kindR S 1 = r2 at HK HO ⊢
  generalize re.kindT S 1 = tq at HK
  have hne : (r2.err != 0) = true := by simpa using HO.out
  have HR0 := Lib.hid (World.alloc_heap_new w (poO ⟨#[]⟩ 0 0 0 0 (.slice none 0 0)))
  have hfld : ∀ (k : Int) (t : ByteArray) (n p : Int) (w : World), (Instr.field 77 (.agg #[.int .i64 k, .string t, .int .u64 n, .int .i64 p]) 1).run Tryz.prog w = .ok (.string t) w := fun _ _ _ _ _ => rfl
  obtain ⟨i8, hi8, hz8, hs8, hb8⟩ := info_parts6 info_ru
  go_enter Tryz.func14, Tryz.ntmps14
  go_wp2_with (first
    | (go_at_call 34; (with_reducible refine HD.out.mono ?_); rintro e wr0 ⟨b, A, cap, rfl, hp, hb, hlo⟩; have I0 := Lib.hid (PoD.first (w := w) hp ((lbox w (poO ⟨#[]⟩ 0 0 0 0 (.slice none 0 0))).trans (hb.mono (Nat.le_succ _))) ((hb.block w.heap.size (Nat.lt_succ_self _)).trans HR0.out) hlo); clear hp hb hlo)
    | (go_at_call 35; (with_reducible refine (C1.out _ _ _ _ I0.out.rd).mono ?_); rintro e w01 ⟨rfl, hr, hg⟩; have I1 := Lib.hid (I0.out.call hr hg); clear hr hg I0)
    | (go_at_call 36; (with_reducible refine (C2.out _ _ _ _ I1.out.rd).mono ?_); rintro e w02 ⟨rfl, hr, hg⟩; have I2' := Lib.hid (I1.out.call hr hg); have e0 := cell6 I2'.out.box 0 rfl; have z0 := frozen6 I2'.out.box 0; have hl2 := I2'.out.size; have I2 := Lib.hid (I2'.out.setArch a); clear hr hg I1)
    | (go_at_call 35; (with_reducible refine (C3.out _ _ _ _ I2.out.rd).mono ?_); rintro e w03 ⟨rfl, hr, hg⟩; have I3 := Lib.hid (I2.out.call hr hg); clear hr hg I2 I2' e0 z0 hl2)
    | (go_at_call 35; (with_reducible refine (C4.out _ _ _ _ I3.out.rd).mono ?_); rintro e w04 ⟨rfl, hr, hg⟩; have I4 := Lib.hid (I3.out.call hr hg); clear hr hg I3)
    | (go_at_call 37; (with_reducible refine (C5.out _ _ _ _ I4.out.rd).mono ?_); rintro e w05 ⟨rfl, hr, hg⟩; have I5' := Lib.hid (I4.out.call hr hg); have e1 := cell6 I5'.out.box 1 rfl; have z1 := frozen6 I5'.out.box 1; have e2 := cell6 I5'.out.box 2 rfl; have z2 := frozen6 I5'.out.box 2; have hl5 := I5'.out.size; have I5 := Lib.hid ((I5'.out.set1 fk).set2 (fv : Int)); clear hr hg I4)
    | (go_at_call 35; (with_reducible refine (C6.out _ _ _ _ I5.out.rd).mono ?_); rintro e w06 ⟨rfl, hr, hg⟩; have I6 := Lib.hid (I5.out.call hr hg); clear hr hg I5 I5' e1 z1 e2 z2 hl5)
    | (go_at_call 35; (with_reducible refine (C7.out _ _ _ _ I6.out.rd).mono ?_); rintro e w07 ⟨rfl, hr, hg⟩; have I7 := Lib.hid (I6.out.call hr hg); clear hr hg I6)
    | (go_at_call 37; (with_reducible refine (C8.out _ _ _ _ I7.out.rd).mono ?_); rintro e w08 ⟨rfl, hr, hg⟩; have I8' := Lib.hid (I7.out.call hr hg); have e3 := cell6 I8'.out.box 3 rfl; have z3 := frozen6 I8'.out.box 3; have e4 := cell6 I8'.out.box 4 rfl; have z4 := frozen6 I8'.out.box 4; have hl8 := I8'.out.size; have I8 := Lib.hid ((I8'.out.set3 dk).set4 (dv : Int)); clear hr hg I7)
    | (go_at_call 35; (with_reducible refine (C9.out _ _ _ _ I8.out.rd).mono ?_); rintro e w09 ⟨rfl, hr, hg⟩; have I9 := Lib.hid (I8.out.call hr hg); clear hr hg I8 I8' e3 z3 e4 z4 hl8))
  obtain ⟨E, hEE⟩ : ∃ E, E = wr0.heap.size := ⟨_, rfl⟩
  rw [← hEE] at I9 ⊢
  clear hEE
  have HKb := Lib.hid (fun W hp => HK.out W b A cap hp)
  clear C1 C2 C3 C4 C5 C6 C7 C8 C9 HD HK
  have HK := HKb
  obtain ⟨fn, hfn⟩ : ∃ fn : Int, fn = (fv : Int) := ⟨_, rfl⟩
  obtain ⟨dn, hdn⟩ : ∃ dn : Int, dn = (dv : Int) := ⟨_, rfl⟩
  rw [← hfn, ← hdn] at I9
  have HFN := Lib.hid (And.intro hfn hdn)
  clear hfn hdn
  go_loopw [7, 8] (fun _ _ wr => ∃ l v xs m rr, rulesS S n m l rr = some (lr, re) ∧ Goes S r9 rr ∧ l.length ≤ 512 ∧ PoD w wr b A cap S rr E a fk fn dk dn l v xs) (fun _ _ wr => 513 - cellLen wr ⟨E, 5, none⟩)
  case atStart => exact ⟨_, _, _, _, _, HJ.out.2.2, .refl HJ.out.1, Nat.zero_le _, I9.out⟩
  case round =>
    obtain ⟨l, v, xs, m, rr, hrest, hgo, hll, hT⟩ := hrel
    obtain ⟨m, rfl⟩ : ∃ m', m = m' + 1 := ⟨m - 1, by
      rcases m with _ | m
      · cases hrest
      · rfl⟩
    obtain ⟨Av, nv, cv, rfl⟩ := own_form hT.own
    have hnv : nv = l.length := own_len hT.own
    have HT := Lib.hid hT
    have HCL : Hid (cellLen wr ⟨E, 5, none⟩ = l.length) := Lib.hid (by
      have h0 : wr.cell? ⟨E, 5, none⟩ = some (.slice Av nv cv) := cell6 HT.out.box 5 rfl
      unfold cellLen
      rw [h0]
      exact own_len HT.out.own)
    have hdeep : rr.deep = 0 := hgo.deep.trans HJ.out.2.1
    have c5 : wr.cell? ⟨b, 5, none⟩ = some (.int .i64 rr.err) := World.rowIs.cell HT.out.rd.row (i := 5) (by decide)
    have gA := goes_peek hgo.j
    have gB := goes_is gA.j 2 (by decide) bOn
    have hjl := hgo.j.le
    have hjl2 := gA.j.le
    have HPk := Lib.hid (fun W hW => rd6_peek W b A cap S rr hW)
    have hIs : ∀ W, RdAt W b A cap S (rr.peekR S) → Calls Tryz.prog 39 #[.pointer (some ⟨b, 0, none⟩), .int .i64 2, .string ⟨#[111, 110]⟩] W (RdP W b A cap S (.bool ((rr.peekR S).isB S 2 bOn)) ((rr.peekR S).isR S 2 bOn)) := fun W hW => rd6_is W b A cap S _ hW 2 ⟨#[111, 110]⟩ (by omega)
    have hFa := fun W hW => rd6_fails W b A cap S ((rr.peekR S).isR S 2 bOn) hW 63 (rr.peekT S).pos
    have hRu := fun (x : Ru) (r' : Rd) (hx : ruleS S n ((rr.peekR S).isR S 2 bOn) = some (x, r')) W hW => rd6_ruleS (w := W) (b := b) (A := A) (cap := cap) gB.j (by rw [gB.deep, gA.deep]; exact hdeep) hW hx
    unfold rulesS at hrest
    clear I9 hT
    by_cases he : rr.err = 0
    · have heb : (rr.err == 0) = true := beq_iff_eq.2 he
      rw [if_neg (fun g => g he)] at hrest
      clear he
      have hTE : ∀ k, (Array.size wr.heap) = k → E < k := fun k hk => by subst hk; exact HT.out.size
      generalize hqq : rr.peekT S = q at HPk hFa hrest
      generalize hrp : rr.peekR S = rp at HPk hIs hFa hRu hrest gA gB
      clear hqq hrp
      by_cases hb : rp.isB S 2 bOn = true
      · rw [if_pos hb] at hrest
        rw [hb] at hIs
        by_cases h5 : l.length = 512
        · rw [if_pos h5] at hrest
          injection hrest with hrest
          injection hrest with e1 e2
          subst e1
          subst e2
          have h5b : ((nv : Int) == 512) = true := by rw [hnv, h5]; rfl
          have h5c : (nv == 512) = true := by rw [hnv, h5]; rfl
          have HIs := Lib.hid hIs
          have HFa := Lib.hid hFa
          clear h5 hb hIs hFa hRu hgo hll hjl hjl2 hdeep hnv
          generalize rp.isR S 2 bOn = ri at HIs HFa HK gB
          clear gA gB
          go_wp2_with (first
            | (go_at_call 38; (with_reducible refine (HPk.out _ HT.out.rd).mono ?_); rintro e w1 ⟨rfl, hr1, hg1⟩; have HN := Lib.hid (HT.out.call hr1 hg1); have HTB : Hid ((w1.alloc (tkO q)).heap[w1.heap.size]? = some (tkO q)) := Lib.hid (World.alloc_heap_new w1 (tkO q)); have H1 : Hid (PoD w (w1.alloc (tkO q)) b A cap S rp E a fk fn dk dn l (.slice Av nv cv) xs) := Lib.hid (HN.out.alloc (tkO q)); have H1b : Hid (b < w1.heap.size) := Lib.hid hr1.row.lt; clear hr1 hg1 HN)
            | (go_at_call 39; (with_reducible refine (HIs.out _ H1.out.rd).mono ?_); rintro e w3 ⟨rfl, hr3, hg3⟩; have H3 : Hid (PoD w w3 b A cap S ri E a fk fn dk dn l (.slice Av nv cv) xs ∧ w3.heap[w1.heap.size]? = some (tkO q)) := Lib.hid ⟨H1.out.call hr3 hg3, kept_box HTB.out hg3 (by have h1 := H1b.out; omega)⟩; have f5 := cell6 H3.out.1.box 5 rfl; have p3 := cell6 H3.out.2 3 rfl; clear hr3 hg3 H1 HTB)
            | (go_at_call 40; (with_reducible refine (HFa.out _ H3.out.1.rd).mono ?_); rintro e w4 ⟨rfl, hr4, hg4⟩; have H4 := Lib.hid (H3.out.1.call hr4 hg4); clear hr4 hg4)
            | (go_at_call 36; (with_reducible refine (HK.out _ H4.out.rd).mono ?_); rintro e w5 ⟨rfl, hr5, hg5⟩; have H5 := Lib.hid (H4.out.call hr5 hg5); have c5 : w5.cell? ⟨b, 5, none⟩ = some (.int .i64 r2.err) := World.rowIs.cell H5.out.rd.row (i := 5) (by decide); have c6 : w5.cell? ⟨b, 6, none⟩ = some (.int .i64 (r2.bad : Int)) := World.rowIs.cell H5.out.rd.row (i := 6) (by decide); have hE5 := H5.out.box; have hR5 := H5.out.res; have hlw : w.heap.size < w5.heap.size := (Array.getElem?_eq_some_iff.1 hR5).1; have m0 := cell6 hE5 0 rfl; have m1 := cell6 hE5 1 rfl; have m2 := cell6 hE5 2 rfl; have m3 := cell6 hE5 3 rfl; have m4 := cell6 hE5 4 rfl; have m5 := cell6 hE5 5 rfl; have u0 := cell6 hR5 0 rfl; have u1 := cell6 hR5 1 rfl; have u2 := cell6 hR5 2 rfl; have u3 := cell6 hR5 3 rfl; have u4 := cell6 hR5 4 rfl; have u5 := cell6 hR5 5 rfl; have y0 := frozen6 hR5 0; have y1 := frozen6 hR5 1; have y2 := frozen6 hR5 2; have y3 := frozen6 hR5 3; have y4 := frozen6 hR5 4; have y5 := frozen6 hR5 5; clear hr5 hg5 hE5 hR5))
          refine wp_region_held_drew (S := fun W' => W'.rowIs b 82 7 (rdV A cap S r2)) (by kernel_rfl) H5.out.rd.row (fun hHeld => ?_)
          have H6 : Hid (w5.drew.rowIs b 82 7 (rdV A cap S r2) ∧ w5.drew.heap[w.heap.size]? = some (poO ⟨#[]⟩ 0 0 0 0 (.slice none 0 0)) ∧ Below w.heap.size w w5.drew) := Lib.hid ⟨H5.out.rd.row, H5.out.res, below_drawn H5.out.bel 1⟩
          have hlY : w.heap.size < w5.drew.heap.size := hlw
          have hbR : b ≠ w.heap.size := by have := H5.out.wb; omega
          clear c5 c6 u0 u1 u2 u3 u4 u5 y0 y1 y2 y3 y4 y5 m0 m1 m2 m3 m4 m5 hlw H5
          generalize w5.drew = Y at H6 hlY ⊢
          have h6 : Y.rowIs b 82 7 (rdV A cap S r2) := H6.out.1
          have u0 := cell6 H6.out.2.1 0 rfl
          have u1 := cell6 H6.out.2.1 1 rfl
          have u2 := cell6 H6.out.2.1 2 rfl
          have u3 := cell6 H6.out.2.1 3 rfl
          have u4 := cell6 H6.out.2.1 4 rfl
          have u5 := cell6 H6.out.2.1 5 rfl
          have y0 := frozen6 H6.out.2.1 0
          have y1 := frozen6 H6.out.2.1 1
          have y2 := frozen6 H6.out.2.1 2
          have y3 := frozen6 H6.out.2.1 3
          have y4 := frozen6 H6.out.2.1 4
          have y5 := frozen6 H6.out.2.1 5
          refine wpAnyH_take (i := 0) (v := ?_) rfl (by kernel_rfl) (by kernel_rfl) (by kernel_rfl) (fun _ _ _ h => h) (Or.inl ⟨by rfl, ?_⟩) (by assumption) ?_
          rotate_left
          · intro wS hSw
            (have i5 : wS.cell? ⟨b, 5, none⟩ = some (.int .i64 r2.err) := World.rowIs.cell hSw (i := 5) (by decide); have i6 : wS.cell? ⟨b, 6, none⟩ = some (.int .i64 (r2.bad : Int)) := World.rowIs.cell hSw (i := 6) (by decide))
            go_simp
            all_goals with_reducible rfl
          (try simp only [List.getElem_toArray, List.getElem_cons_zero, List.getElem_cons_succ, Act.put, List.setIfInBounds_toArray, List.set_cons_zero, List.set_cons_succ])
          refine wpAnyH_take (i := 1) (v := ?_) rfl (by kernel_rfl) (by kernel_rfl) (by kernel_rfl) (fun _ _ _ h => h) (Or.inl ⟨by rfl, ?_⟩) (by assumption) ?_
          rotate_left
          · intro wS hSw
            (have i5 : wS.cell? ⟨b, 5, none⟩ = some (.int .i64 r2.err) := World.rowIs.cell hSw (i := 5) (by decide); have i6 : wS.cell? ⟨b, 6, none⟩ = some (.int .i64 (r2.bad : Int)) := World.rowIs.cell hSw (i := 6) (by decide))
            go_simp
            all_goals with_reducible rfl
          (try simp only [List.getElem_toArray, List.getElem_cons_zero, List.getElem_cons_succ, Act.put, List.setIfInBounds_toArray, List.set_cons_zero, List.set_cons_succ])
          refine wpAnyH_take (i := 2) (v := ?_) rfl (by kernel_rfl) (by kernel_rfl) (by kernel_rfl) (fun _ _ _ h => h) (Or.inl ⟨by rfl, ?_⟩) (by assumption) ?_
          rotate_left
          · intro wS hSw
            (have i5 : wS.cell? ⟨b, 5, none⟩ = some (.int .i64 r2.err) := World.rowIs.cell hSw (i := 5) (by decide); have i6 : wS.cell? ⟨b, 6, none⟩ = some (.int .i64 (r2.bad : Int)) := World.rowIs.cell hSw (i := 6) (by decide))
            go_simp
            all_goals with_reducible rfl
          (try simp only [List.getElem_toArray, List.getElem_cons_zero, List.getElem_cons_succ, Act.put, List.setIfInBounds_toArray, List.set_cons_zero, List.set_cons_succ])
          refine wpAnyH_take (i := 3) (v := ?_) rfl (by kernel_rfl) (by kernel_rfl) (by kernel_rfl) (fun _ _ _ h => h) (Or.inl ⟨by rfl, ?_⟩) (by assumption) ?_
          rotate_left
          · intro wS hSw
            (have i5 : wS.cell? ⟨b, 5, none⟩ = some (.int .i64 r2.err) := World.rowIs.cell hSw (i := 5) (by decide); have i6 : wS.cell? ⟨b, 6, none⟩ = some (.int .i64 (r2.bad : Int)) := World.rowIs.cell hSw (i := 6) (by decide))
            go_simp
            all_goals with_reducible rfl
          (try simp only [List.getElem_toArray, List.getElem_cons_zero, List.getElem_cons_succ, Act.put, List.setIfInBounds_toArray, List.set_cons_zero, List.set_cons_succ])
          refine wpAnyH_take (i := 4) (v := ?_) rfl (by kernel_rfl) (by kernel_rfl) (by kernel_rfl) (fun _ _ _ h => h) (Or.inl ⟨by rfl, ?_⟩) (by assumption) ?_
          rotate_left
          · intro wS hSw
            (have i5 : wS.cell? ⟨b, 5, none⟩ = some (.int .i64 r2.err) := World.rowIs.cell hSw (i := 5) (by decide); have i6 : wS.cell? ⟨b, 6, none⟩ = some (.int .i64 (r2.bad : Int)) := World.rowIs.cell hSw (i := 6) (by decide))
            go_simp
            all_goals with_reducible rfl
          (try simp only [List.getElem_toArray, List.getElem_cons_zero, List.getElem_cons_succ, Act.put, List.setIfInBounds_toArray, List.set_cons_zero, List.set_cons_succ])
          refine wpAnyH_take (i := 5) (v := ?_) rfl (by kernel_rfl) (by kernel_rfl) (by kernel_rfl) (fun _ _ _ h => h) (Or.inl ⟨by rfl, ?_⟩) (by assumption) ?_
          rotate_left
          · intro wS hSw
            (have i5 : wS.cell? ⟨b, 5, none⟩ = some (.int .i64 r2.err) := World.rowIs.cell hSw (i := 5) (by decide); have i6 : wS.cell? ⟨b, 6, none⟩ = some (.int .i64 (r2.bad : Int)) := World.rowIs.cell hSw (i := 6) (by decide))
            go_simp
            all_goals with_reducible rfl
          (try simp only [List.getElem_toArray, List.getElem_cons_zero, List.getElem_cons_succ, Act.put, List.setIfInBounds_toArray, List.set_cons_zero, List.set_cons_succ])
          refine wpAnyH_take (i := 6) (v := ?_) rfl (by kernel_rfl) (by kernel_rfl) (by kernel_rfl) (fun _ _ _ h => h) (Or.inl ⟨by rfl, ?_⟩) (by assumption) ?_
          rotate_left
          · intro wS hSw
            (have i5 : wS.cell? ⟨b, 5, none⟩ = some (.int .i64 r2.err) := World.rowIs.cell hSw (i := 5) (by decide); have i6 : wS.cell? ⟨b, 6, none⟩ = some (.int .i64 (r2.bad : Int)) := World.rowIs.cell hSw (i := 6) (by decide))
            go_simp
            all_goals with_reducible rfl
          (try simp only [List.getElem_toArray, List.getElem_cons_zero, List.getElem_cons_succ, Act.put, List.setIfInBounds_toArray, List.set_cons_zero, List.set_cons_succ])
          refine wpAnyH_take (i := 7) (v := ?_) rfl (by kernel_rfl) (by kernel_rfl) (by kernel_rfl) (fun _ _ _ h => h) (Or.inl ⟨by rfl, ?_⟩) (by assumption) ?_
          rotate_left
          · intro wS hSw
            (have i5 : wS.cell? ⟨b, 5, none⟩ = some (.int .i64 r2.err) := World.rowIs.cell hSw (i := 5) (by decide); have i6 : wS.cell? ⟨b, 6, none⟩ = some (.int .i64 (r2.bad : Int)) := World.rowIs.cell hSw (i := 6) (by decide))
            go_simp
            all_goals with_reducible rfl
          (try simp only [List.getElem_toArray, List.getElem_cons_zero, List.getElem_cons_succ, Act.put, List.setIfInBounds_toArray, List.set_cons_zero, List.set_cons_succ])
          refine wpAnyH_take (i := 8) (v := ?_) rfl (by kernel_rfl) (by kernel_rfl) (by kernel_rfl) (fun _ _ _ h => h) (Or.inl ⟨by rfl, ?_⟩) (by assumption) ?_
          rotate_left
          · intro wS hSw
            (have i5 : wS.cell? ⟨b, 5, none⟩ = some (.int .i64 r2.err) := World.rowIs.cell hSw (i := 5) (by decide); have i6 : wS.cell? ⟨b, 6, none⟩ = some (.int .i64 (r2.bad : Int)) := World.rowIs.cell hSw (i := 6) (by decide))
            go_simp
            all_goals with_reducible rfl
          (try simp only [List.getElem_toArray, List.getElem_cons_zero, List.getElem_cons_succ, Act.put, List.setIfInBounds_toArray, List.set_cons_zero, List.set_cons_succ])
          refine held_one (i := 9) (by kernel_rfl) rfl (fun K hK => ?_)
          go_simp
          refine hK.out _ _ (row_new (row_new (row_new (row_new (row_new (row_new h6 hbR 0 _) hbR 1 _) hbR 2 _) hbR 3 _) hbR 4 _) hbR 5 _) (fun hH2 => ?_)
          clear hK K hHeld
          refine wpAnyH_take (i := 10) (v := ?_) rfl (by kernel_rfl) (by kernel_rfl) (by kernel_rfl) (fun _ _ _ h => h) (Or.inl ⟨by rfl, ?_⟩) (by assumption) ?_
          rotate_left
          · intro wS hSw
            (skip)
            go_simp
            all_goals with_reducible rfl
          (try simp only [List.getElem_toArray, List.getElem_cons_zero, List.getElem_cons_succ, Act.put, List.setIfInBounds_toArray, List.set_cons_zero, List.set_cons_succ])
          refine wpAnyH_take (i := 11) (v := ?_) rfl (by kernel_rfl) (by kernel_rfl) (by kernel_rfl) (fun _ _ _ h => h) (Or.inl ⟨by rfl, ?_⟩) (by assumption) ?_
          rotate_left
          · intro wS hSw
            (skip)
            go_simp
            all_goals with_reducible rfl
          (try simp only [List.getElem_toArray, List.getElem_cons_zero, List.getElem_cons_succ, Act.put, List.setIfInBounds_toArray, List.set_cons_zero, List.set_cons_succ])
          refine wpAnyH_done (by kernel_rfl) ?_ _
          go_wp2
          exact bodyPost_ret (v := .tuple #[poV ⟨#[]⟩ 0 0 0 0 (.slice none 0 0), .int .i64 r2.err, .int .i64 (r2.bad : Int)]) (by simp [results, Tryz.results14, go_sem, u0, u1, u2, u3, u4, u5, World.cell?_setCell_same']) rfl ⟨rfl, (((((H6.out.2.2.setCell (p := ⟨w.heap.size, 0, none⟩) (Nat.le_refl _) _).setCell (p := ⟨w.heap.size, 1, none⟩) (Nat.le_refl _) _).setCell (p := ⟨w.heap.size, 2, none⟩) (Nat.le_refl _) _).setCell (p := ⟨w.heap.size, 3, none⟩) (Nat.le_refl _) _).setCell (p := ⟨w.heap.size, 4, none⟩) (Nat.le_refl _) _).setCell (p := ⟨w.heap.size, 5, none⟩) (Nat.le_refl _) _⟩
        · rw [if_neg h5] at hrest
          have h5b : ((nv : Int) == 512) = false := beq_false_of_ne (by omega)
          have h5c : (nv == 512) = false := beq_false_of_ne (by omega)
          cases hxr : ruleS S n (rp.isR S 2 bOn) with
          | none => rw [hxr] at hrest; cases hrest
          | some y =>
            obtain ⟨xr, r4⟩ := y
            rw [hxr] at hrest
            have gR := goes_rule gB.j hxr
            have HRS : Hid (rulesS S n m (l ++ [xr]) r4 = some (lr, re)) := Lib.hid hrest
            have HJ2 : Hid (Goes S r9 r4) := Lib.hid (((hgo.trans gA).trans gB).trans gR)
            have HLL : Hid ((l ++ [xr]).length ≤ 512) := Lib.hid (by rw [List.length_append]; simp only [List.length_cons, List.length_nil]; omega)
            have HRu := Lib.hid (hRu xr r4 hxr)
            have HIs := Lib.hid hIs
            clear hrest hb hIs hFa hRu hgo hjl hjl2 hdeep gR hxr HK hnv
            generalize rp.isR S 2 bOn = ri at HIs HRu gB
            clear gA gB
            go_wp2_with (first
              | (go_at_call 38; (with_reducible refine (HPk.out _ HT.out.rd).mono ?_); rintro e w1 ⟨rfl, hr1, hg1⟩; have HN := Lib.hid (HT.out.call hr1 hg1); have HTB : Hid ((w1.alloc (tkO q)).heap[w1.heap.size]? = some (tkO q)) := Lib.hid (World.alloc_heap_new w1 (tkO q)); have H1 : Hid (PoD w (w1.alloc (tkO q)) b A cap S rp E a fk fn dk dn l (.slice Av nv cv) xs) := Lib.hid (HN.out.alloc (tkO q)); have H1b : Hid (b < w1.heap.size) := Lib.hid hr1.row.lt; clear hr1 hg1 HN)
              | (go_at_call 39; (with_reducible refine (HIs.out _ H1.out.rd).mono ?_); rintro e w3 ⟨rfl, hr3, hg3⟩; have H3 : Hid (PoD w w3 b A cap S ri E a fk fn dk dn l (.slice Av nv cv) xs ∧ w3.heap[w1.heap.size]? = some (tkO q)) := Lib.hid ⟨H1.out.call hr3 hg3, kept_box HTB.out hg3 (by have h1 := H1b.out; omega)⟩; have f5 := cell6 H3.out.1.box 5 rfl; have p3 := cell6 H3.out.2 3 rfl; clear hr3 hg3 H1 HTB))
            refine wp_region_held_drew (S := fun _ => True) (by kernel_rfl) trivial (fun _ => ?_)
            have HY : Hid (PoD w w3.drew b A cap S ri E a fk fn dk dn l (.slice Av nv cv) xs) := Lib.hid (H3.out.1.drawn 1)
            clear H3
            generalize w3.drew = Y at HY ⊢
            have hby : Y.cell? ⟨E, 5, none⟩ = some (.slice Av nv cv) := cell6 HY.out.box 5 rfl
            refine wpAnyH_take (i := 0) (v := ?_) rfl (by kernel_rfl) (by kernel_rfl) (by kernel_rfl) (fun _ _ _ h => h) (Or.inl ⟨by rfl, ?_⟩) (by assumption) ?_
            rotate_left
            · intro wS hSw
              (skip)
              go_simp
              all_goals with_reducible rfl
            (try simp only [List.getElem_toArray, List.getElem_cons_zero, List.getElem_cons_succ, Act.put, List.setIfInBounds_toArray, List.set_cons_zero, List.set_cons_succ])
            refine wpAnyH_take (i := 2) (v := ?_) rfl (by kernel_rfl) (by kernel_rfl) (by kernel_rfl) (fun _ _ _ h => h) (Or.inl ⟨by rfl, ?_⟩) (by assumption) ?_
            rotate_left
            · intro wS hSw
              (skip)
              go_simp
              all_goals with_reducible rfl
            (try simp only [List.getElem_toArray, List.getElem_cons_zero, List.getElem_cons_succ, Act.put, List.setIfInBounds_toArray, List.set_cons_zero, List.set_cons_succ])
            refine wpAnyH_ready (rs := [1, 3]) (by kernel_rfl) (by simp) (AllReadyH.cons rfl (fun K hK => ?_) (AllReadyH.cons rfl (fun K hK => ?_) AllReadyH.nil))
            · go_simp
              refine hK.out _ _ trivial (fun _ => ?_)
              clear hK K
              (try simp only [Act.put, List.setIfInBounds_toArray, List.set_cons_zero, List.set_cons_succ, List.getElem_toArray, List.getElem_cons_zero, List.getElem_cons_succ])
              refine held_one (i := 3) (by kernel_rfl) rfl (fun K hK => ?_)
              go_simp
              go_at_call 41
              refine (HRu.out _ HY.out.rd).mono ?_
              rintro e w4 ⟨rv, rfl, ⟨tb, capc, Ax, cx, rfl, hxr⟩, hr4, hg4⟩
              have HZ := Lib.hid (HY.out.call hr4 hg4)
              have HXR : Hid (RuIn w4 (fun k => E + 1 ≤ k ∧ some k ≠ (Value.slice Av nv cv).ownBlock) xr tb Ax cx) := Lib.hid (hxr.keep (Nat.le_refl _) (fun k hk => ⟨by have := HY.out.size; omega, fun e => by have := (HY.out.own.lt k e.symm).2; omega⟩) (fun _ _ _ => rfl))
              have hbz : w4.cell? ⟨E, 5, none⟩ = some (.slice Av nv cv) := cell6 HZ.out.box 5 rfl
              refine hK.out _ _ trivial (fun _ => ?_)
              clear hK K hr4 hg4 hxr
              (try simp only [Act.put, List.setIfInBounds_toArray, List.set_cons_zero, List.set_cons_succ, List.getElem_toArray, List.getElem_cons_zero, List.getElem_cons_succ])
              refine held_one (i := 4) (by kernel_rfl) rfl (fun K hK => ?_)
              go_simp
              refine hK.out _ _ trivial (fun _ => ?_)
              clear hK K
              (try simp only [Act.put, List.setIfInBounds_toArray, List.set_cons_zero, List.set_cons_succ, List.getElem_toArray, List.getElem_cons_zero, List.getElem_cons_succ])
              refine held_one (i := 5) (by kernel_rfl) rfl (fun K hK => ?_)
              rw [if_pos (by kernel_rfl)]
              refine oper_append6 (.tmp 53) (.tmp 56) 27 rfl (E + 1) 88 i8 (.agg #[.slice none 0 0, .int .i64 0, .slice none 0 0, .int .i64 0, .int .u64 0, .int .i64 0, .int .u64 0, .int .i64 0, .int .u64 0]) 9 104 Tryz.underlying27 hi8 hz8 hs8 hb8 rfl (by decide) (.slice Av nv cv) l.length xs rfl (own_below HZ.out.own (lbox w4 _)) ⟨w4.heap.size, 0, none⟩ 1 1 (ruC xr tb capc Ax cx) rfl rfl (ru_cells _ _ rfl _ _ _ _ _) ru_one (by unfold maxLen; omega) (by omega) (by have := HZ.out.size; simp; omega) ?_
              intro v' wd ho hg hv
              obtain ⟨A', n', c', rfl⟩ := own_form ho
              have HW := Lib.hid (HZ.out.turn HXR.out ho hg hv)
              refine hK.out _ _ trivial (fun _ => ?_)
              clear hK K ho hg hv
              (try simp only [Act.put, List.setIfInBounds_toArray, List.set_cons_zero, List.set_cons_succ, List.getElem_toArray, List.getElem_cons_zero, List.getElem_cons_succ])
              have hbE := HW.out.2
              have hlE : E < wd.heap.size := (Array.getElem?_eq_some_iff.1 hbE).1
              have q0 := cell6 hbE 5 rfl
              have q0f := frozen6 hbE 5
              refine wpAnyH_take (i := 6) (v := ?_) rfl (by kernel_rfl) (by kernel_rfl) (by kernel_rfl) (fun _ _ _ h => h) (Or.inl ⟨by rfl, ?_⟩) (by assumption) ?_
              rotate_left
              · intro wS hSw
                (skip)
                go_simp
                all_goals with_reducible rfl
              (try simp only [List.getElem_toArray, List.getElem_cons_zero, List.getElem_cons_succ, Act.put, List.setIfInBounds_toArray, List.set_cons_zero, List.set_cons_succ])
              refine held_one (i := 7) (by kernel_rfl) rfl (fun K hK => ?_)
              go_simp
              refine hK.out _ _ trivial (fun _ => ?_)
              clear hK K hbE hlE q0 q0f
              refine wpAnyH_done (by kernel_rfl) ?_ _
              have HX := Lib.hid HW.out.1
              clear HW
              generalize wd.setCell ⟨E, 5, none⟩ (.slice A' n' c') = wx at HX ⊢
              go_wp2
              exact ⟨⟨_, _, _, _, _, HRS.out, HJ2.out, HLL.out, HX.out⟩, by
                have h0 : wx.cell? ⟨E, 5, none⟩ = some (.slice A' n' c') := cell6 HX.out.box 5 rfl
                have h1 := own_len HX.out.own
                have h2 := HLL.out
                rw [HCL.out]
                unfold cellLen
                rw [h0]
                simp only [h1]
                rw [List.length_append] at h2 ⊢
                simp only [List.length_cons, List.length_nil] at h2 ⊢
                omega⟩
            · go_simp
              go_at_call 41
              refine (HRu.out _ HY.out.rd).mono ?_
              rintro e w4 ⟨rv, rfl, ⟨tb, capc, Ax, cx, rfl, hxr⟩, hr4, hg4⟩
              have HZ := Lib.hid (HY.out.call hr4 hg4)
              have HXR : Hid (RuIn w4 (fun k => E + 1 ≤ k ∧ some k ≠ (Value.slice Av nv cv).ownBlock) xr tb Ax cx) := Lib.hid (hxr.keep (Nat.le_refl _) (fun k hk => ⟨by have := HY.out.size; omega, fun e => by have := (HY.out.own.lt k e.symm).2; omega⟩) (fun _ _ _ => rfl))
              have hbz : w4.cell? ⟨E, 5, none⟩ = some (.slice Av nv cv) := cell6 HZ.out.box 5 rfl
              refine hK.out _ _ trivial (fun _ => ?_)
              clear hK K hr4 hg4 hxr
              (try simp only [Act.put, List.setIfInBounds_toArray, List.set_cons_zero, List.set_cons_succ, List.getElem_toArray, List.getElem_cons_zero, List.getElem_cons_succ])
              refine wpAnyH_ready (rs := [1, 4]) (by kernel_rfl) (by simp) (AllReadyH.cons rfl (fun K hK => ?_) (AllReadyH.cons rfl (fun K hK => ?_) AllReadyH.nil))
              · go_simp
                refine hK.out _ _ trivial (fun _ => ?_)
                clear hK K
                (try simp only [Act.put, List.setIfInBounds_toArray, List.set_cons_zero, List.set_cons_succ, List.getElem_toArray, List.getElem_cons_zero, List.getElem_cons_succ])
                refine held_one (i := 4) (by kernel_rfl) rfl (fun K hK => ?_)
                go_simp
                refine hK.out _ _ trivial (fun _ => ?_)
                clear hK K
                (try simp only [Act.put, List.setIfInBounds_toArray, List.set_cons_zero, List.set_cons_succ, List.getElem_toArray, List.getElem_cons_zero, List.getElem_cons_succ])
                refine held_one (i := 5) (by kernel_rfl) rfl (fun K hK => ?_)
                rw [if_pos (by kernel_rfl)]
                refine oper_append6 (.tmp 53) (.tmp 56) 27 rfl (E + 1) 88 i8 (.agg #[.slice none 0 0, .int .i64 0, .slice none 0 0, .int .i64 0, .int .u64 0, .int .i64 0, .int .u64 0, .int .i64 0, .int .u64 0]) 9 104 Tryz.underlying27 hi8 hz8 hs8 hb8 rfl (by decide) (.slice Av nv cv) l.length xs rfl (own_below HZ.out.own (lbox w4 _)) ⟨w4.heap.size, 0, none⟩ 1 1 (ruC xr tb capc Ax cx) rfl rfl (ru_cells _ _ rfl _ _ _ _ _) ru_one (by unfold maxLen; omega) (by omega) (by have := HZ.out.size; simp; omega) ?_
                intro v' wd ho hg hv
                obtain ⟨A', n', c', rfl⟩ := own_form ho
                have HW := Lib.hid (HZ.out.turn HXR.out ho hg hv)
                refine hK.out _ _ trivial (fun _ => ?_)
                clear hK K ho hg hv
                (try simp only [Act.put, List.setIfInBounds_toArray, List.set_cons_zero, List.set_cons_succ, List.getElem_toArray, List.getElem_cons_zero, List.getElem_cons_succ])
                have hbE := HW.out.2
                have hlE : E < wd.heap.size := (Array.getElem?_eq_some_iff.1 hbE).1
                have q0 := cell6 hbE 5 rfl
                have q0f := frozen6 hbE 5
                refine wpAnyH_take (i := 6) (v := ?_) rfl (by kernel_rfl) (by kernel_rfl) (by kernel_rfl) (fun _ _ _ h => h) (Or.inl ⟨by rfl, ?_⟩) (by assumption) ?_
                rotate_left
                · intro wS hSw
                  (skip)
                  go_simp
                  all_goals with_reducible rfl
                (try simp only [List.getElem_toArray, List.getElem_cons_zero, List.getElem_cons_succ, Act.put, List.setIfInBounds_toArray, List.set_cons_zero, List.set_cons_succ])
                refine held_one (i := 7) (by kernel_rfl) rfl (fun K hK => ?_)
                go_simp
                refine hK.out _ _ trivial (fun _ => ?_)
                clear hK K hbE hlE q0 q0f
                refine wpAnyH_done (by kernel_rfl) ?_ _
                have HX := Lib.hid HW.out.1
                clear HW
                generalize wd.setCell ⟨E, 5, none⟩ (.slice A' n' c') = wx at HX ⊢
                go_wp2
                exact ⟨⟨_, _, _, _, _, HRS.out, HJ2.out, HLL.out, HX.out⟩, by
                  have h0 : wx.cell? ⟨E, 5, none⟩ = some (.slice A' n' c') := cell6 HX.out.box 5 rfl
                  have h1 := own_len HX.out.own
                  have h2 := HLL.out
                  rw [HCL.out]
                  unfold cellLen
                  rw [h0]
                  simp only [h1]
                  rw [List.length_append] at h2 ⊢
                  simp only [List.length_cons, List.length_nil] at h2 ⊢
                  omega⟩
              · go_simp
                refine hK.out _ _ trivial (fun _ => ?_)
                clear hK K
                (try simp only [Act.put, List.setIfInBounds_toArray, List.set_cons_zero, List.set_cons_succ, List.getElem_toArray, List.getElem_cons_zero, List.getElem_cons_succ])
                have hba : ∀ o, (w4.alloc o).cell? ⟨E, 5, none⟩ = some (.slice Av nv cv) := fun o => cell6 (kept_alloc HZ.out.box o) 5 rfl
                refine held_one (i := 1) (by kernel_rfl) rfl (fun K hK => ?_)
                go_simp
                refine hK.out _ _ trivial (fun _ => ?_)
                clear hK K
                (try simp only [Act.put, List.setIfInBounds_toArray, List.set_cons_zero, List.set_cons_succ, List.getElem_toArray, List.getElem_cons_zero, List.getElem_cons_succ])
                refine held_one (i := 5) (by kernel_rfl) rfl (fun K hK => ?_)
                rw [if_pos (by kernel_rfl)]
                refine oper_append6 (.tmp 53) (.tmp 56) 27 rfl (E + 1) 88 i8 (.agg #[.slice none 0 0, .int .i64 0, .slice none 0 0, .int .i64 0, .int .u64 0, .int .i64 0, .int .u64 0, .int .i64 0, .int .u64 0]) 9 104 Tryz.underlying27 hi8 hz8 hs8 hb8 rfl (by decide) (.slice Av nv cv) l.length xs rfl (own_below HZ.out.own (lbox w4 _)) ⟨w4.heap.size, 0, none⟩ 1 1 (ruC xr tb capc Ax cx) rfl rfl (ru_cells _ _ rfl _ _ _ _ _) ru_one (by unfold maxLen; omega) (by omega) (by have := HZ.out.size; simp; omega) ?_
                intro v' wd ho hg hv
                obtain ⟨A', n', c', rfl⟩ := own_form ho
                have HW := Lib.hid (HZ.out.turn HXR.out ho hg hv)
                refine hK.out _ _ trivial (fun _ => ?_)
                clear hK K ho hg hv
                (try simp only [Act.put, List.setIfInBounds_toArray, List.set_cons_zero, List.set_cons_succ, List.getElem_toArray, List.getElem_cons_zero, List.getElem_cons_succ])
                have hbE := HW.out.2
                have hlE : E < wd.heap.size := (Array.getElem?_eq_some_iff.1 hbE).1
                have q0 := cell6 hbE 5 rfl
                have q0f := frozen6 hbE 5
                refine wpAnyH_take (i := 6) (v := ?_) rfl (by kernel_rfl) (by kernel_rfl) (by kernel_rfl) (fun _ _ _ h => h) (Or.inl ⟨by rfl, ?_⟩) (by assumption) ?_
                rotate_left
                · intro wS hSw
                  (skip)
                  go_simp
                  all_goals with_reducible rfl
                (try simp only [List.getElem_toArray, List.getElem_cons_zero, List.getElem_cons_succ, Act.put, List.setIfInBounds_toArray, List.set_cons_zero, List.set_cons_succ])
                refine held_one (i := 7) (by kernel_rfl) rfl (fun K hK => ?_)
                go_simp
                refine hK.out _ _ trivial (fun _ => ?_)
                clear hK K hbE hlE q0 q0f
                refine wpAnyH_done (by kernel_rfl) ?_ _
                have HX := Lib.hid HW.out.1
                clear HW
                generalize wd.setCell ⟨E, 5, none⟩ (.slice A' n' c') = wx at HX ⊢
                go_wp2
                exact ⟨⟨_, _, _, _, _, HRS.out, HJ2.out, HLL.out, HX.out⟩, by
                  have h0 : wx.cell? ⟨E, 5, none⟩ = some (.slice A' n' c') := cell6 HX.out.box 5 rfl
                  have h1 := own_len HX.out.own
                  have h2 := HLL.out
                  rw [HCL.out]
                  unfold cellLen
                  rw [h0]
                  simp only [h1]
                  rw [List.length_append] at h2 ⊢
                  simp only [List.length_cons, List.length_nil] at h2 ⊢
                  omega⟩
      · have hbf : rp.isB S 2 bOn = false := by cases hq : rp.isB S 2 bOn with
          | true => exact absurd hq hb
          | false => rfl
        rw [if_neg hb] at hrest
        rw [hbf] at hIs
        injection hrest with hrest
        injection hrest with e1 e2
        subst e1
        subst e2
        have HIs := Lib.hid hIs
        clear hb hbf hIs hFa hRu hgo hll hjl hjl2 hdeep hnv
        generalize rp.isR S 2 bOn = ri at HIs HK gB
        clear gA gB
        go_wp2_with (first
          | (go_at_call 38; (with_reducible refine (HPk.out _ HT.out.rd).mono ?_); rintro e w1 ⟨rfl, hr1, hg1⟩; have HN := Lib.hid (HT.out.call hr1 hg1); have HTB : Hid ((w1.alloc (tkO q)).heap[w1.heap.size]? = some (tkO q)) := Lib.hid (World.alloc_heap_new w1 (tkO q)); have H1 : Hid (PoD w (w1.alloc (tkO q)) b A cap S rp E a fk fn dk dn l (.slice Av nv cv) xs) := Lib.hid (HN.out.alloc (tkO q)); have H1b : Hid (b < w1.heap.size) := Lib.hid hr1.row.lt; clear hr1 hg1 HN)
          | (go_at_call 39; (with_reducible refine (HIs.out _ H1.out.rd).mono ?_); rintro e w3 ⟨rfl, hr3, hg3⟩; have H3 : Hid (PoD w w3 b A cap S ri E a fk fn dk dn l (.slice Av nv cv) xs ∧ w3.heap[w1.heap.size]? = some (tkO q)) := Lib.hid ⟨H1.out.call hr3 hg3, kept_box HTB.out hg3 (by have h1 := H1b.out; omega)⟩; have f5 := cell6 H3.out.1.box 5 rfl; have p3 := cell6 H3.out.2 3 rfl; clear hr3 hg3 H1 HTB)
          | (go_at_call 36; (with_reducible refine (HK.out _ H3.out.1.rd).mono ?_); rintro e w5 ⟨rfl, hr5, hg5⟩; have H5 := Lib.hid (H3.out.1.call hr5 hg5); have c5 : w5.cell? ⟨b, 5, none⟩ = some (.int .i64 r2.err) := World.rowIs.cell H5.out.rd.row (i := 5) (by decide); have c6 : w5.cell? ⟨b, 6, none⟩ = some (.int .i64 (r2.bad : Int)) := World.rowIs.cell H5.out.rd.row (i := 6) (by decide); have hE5 := H5.out.box; have hR5 := H5.out.res; have hlw : w.heap.size < w5.heap.size := (Array.getElem?_eq_some_iff.1 hR5).1; have m0 := cell6 hE5 0 rfl; have m1 := cell6 hE5 1 rfl; have m2 := cell6 hE5 2 rfl; have m3 := cell6 hE5 3 rfl; have m4 := cell6 hE5 4 rfl; have m5 := cell6 hE5 5 rfl; have u0 := cell6 hR5 0 rfl; have u1 := cell6 hR5 1 rfl; have u2 := cell6 hR5 2 rfl; have u3 := cell6 hR5 3 rfl; have u4 := cell6 hR5 4 rfl; have u5 := cell6 hR5 5 rfl; have y0 := frozen6 hR5 0; have y1 := frozen6 hR5 1; have y2 := frozen6 hR5 2; have y3 := frozen6 hR5 3; have y4 := frozen6 hR5 4; have y5 := frozen6 hR5 5; clear hr5 hg5 hE5 hR5))
        refine wp_region_held_drew (S := fun W' => W'.rowIs b 82 7 (rdV A cap S r2)) (by kernel_rfl) H5.out.rd.row (fun hHeld => ?_)
        have H6 : Hid (w5.drew.rowIs b 82 7 (rdV A cap S r2) ∧ w5.drew.heap[w.heap.size]? = some (poO ⟨#[]⟩ 0 0 0 0 (.slice none 0 0)) ∧ Below w.heap.size w w5.drew) := Lib.hid ⟨H5.out.rd.row, H5.out.res, below_drawn H5.out.bel 1⟩
        have hlY : w.heap.size < w5.drew.heap.size := hlw
        have hbR : b ≠ w.heap.size := by have := H5.out.wb; omega
        clear c5 c6 u0 u1 u2 u3 u4 u5 y0 y1 y2 y3 y4 y5 m0 m1 m2 m3 m4 m5 hlw H5
        generalize w5.drew = Y at H6 hlY ⊢
        have h6 : Y.rowIs b 82 7 (rdV A cap S r2) := H6.out.1
        have u0 := cell6 H6.out.2.1 0 rfl
        have u1 := cell6 H6.out.2.1 1 rfl
        have u2 := cell6 H6.out.2.1 2 rfl
        have u3 := cell6 H6.out.2.1 3 rfl
        have u4 := cell6 H6.out.2.1 4 rfl
        have u5 := cell6 H6.out.2.1 5 rfl
        have y0 := frozen6 H6.out.2.1 0
        have y1 := frozen6 H6.out.2.1 1
        have y2 := frozen6 H6.out.2.1 2
        have y3 := frozen6 H6.out.2.1 3
        have y4 := frozen6 H6.out.2.1 4
        have y5 := frozen6 H6.out.2.1 5
        refine wpAnyH_take (i := 0) (v := ?_) rfl (by kernel_rfl) (by kernel_rfl) (by kernel_rfl) (fun _ _ _ h => h) (Or.inl ⟨by rfl, ?_⟩) (by assumption) ?_
        rotate_left
        · intro wS hSw
          (have i5 : wS.cell? ⟨b, 5, none⟩ = some (.int .i64 r2.err) := World.rowIs.cell hSw (i := 5) (by decide); have i6 : wS.cell? ⟨b, 6, none⟩ = some (.int .i64 (r2.bad : Int)) := World.rowIs.cell hSw (i := 6) (by decide))
          go_simp
          all_goals with_reducible rfl
        (try simp only [List.getElem_toArray, List.getElem_cons_zero, List.getElem_cons_succ, Act.put, List.setIfInBounds_toArray, List.set_cons_zero, List.set_cons_succ])
        refine wpAnyH_take (i := 1) (v := ?_) rfl (by kernel_rfl) (by kernel_rfl) (by kernel_rfl) (fun _ _ _ h => h) (Or.inl ⟨by rfl, ?_⟩) (by assumption) ?_
        rotate_left
        · intro wS hSw
          (have i5 : wS.cell? ⟨b, 5, none⟩ = some (.int .i64 r2.err) := World.rowIs.cell hSw (i := 5) (by decide); have i6 : wS.cell? ⟨b, 6, none⟩ = some (.int .i64 (r2.bad : Int)) := World.rowIs.cell hSw (i := 6) (by decide))
          go_simp
          all_goals with_reducible rfl
        (try simp only [List.getElem_toArray, List.getElem_cons_zero, List.getElem_cons_succ, Act.put, List.setIfInBounds_toArray, List.set_cons_zero, List.set_cons_succ])
        refine wpAnyH_take (i := 2) (v := ?_) rfl (by kernel_rfl) (by kernel_rfl) (by kernel_rfl) (fun _ _ _ h => h) (Or.inl ⟨by rfl, ?_⟩) (by assumption) ?_
        rotate_left
        · intro wS hSw
          (have i5 : wS.cell? ⟨b, 5, none⟩ = some (.int .i64 r2.err) := World.rowIs.cell hSw (i := 5) (by decide); have i6 : wS.cell? ⟨b, 6, none⟩ = some (.int .i64 (r2.bad : Int)) := World.rowIs.cell hSw (i := 6) (by decide))
          go_simp
          all_goals with_reducible rfl
        (try simp only [List.getElem_toArray, List.getElem_cons_zero, List.getElem_cons_succ, Act.put, List.setIfInBounds_toArray, List.set_cons_zero, List.set_cons_succ])
        refine wpAnyH_take (i := 3) (v := ?_) rfl (by kernel_rfl) (by kernel_rfl) (by kernel_rfl) (fun _ _ _ h => h) (Or.inl ⟨by rfl, ?_⟩) (by assumption) ?_
        rotate_left
        · intro wS hSw
          (have i5 : wS.cell? ⟨b, 5, none⟩ = some (.int .i64 r2.err) := World.rowIs.cell hSw (i := 5) (by decide); have i6 : wS.cell? ⟨b, 6, none⟩ = some (.int .i64 (r2.bad : Int)) := World.rowIs.cell hSw (i := 6) (by decide))
          go_simp
          all_goals with_reducible rfl
        (try simp only [List.getElem_toArray, List.getElem_cons_zero, List.getElem_cons_succ, Act.put, List.setIfInBounds_toArray, List.set_cons_zero, List.set_cons_succ])
        refine wpAnyH_take (i := 4) (v := ?_) rfl (by kernel_rfl) (by kernel_rfl) (by kernel_rfl) (fun _ _ _ h => h) (Or.inl ⟨by rfl, ?_⟩) (by assumption) ?_
        rotate_left
        · intro wS hSw
          (have i5 : wS.cell? ⟨b, 5, none⟩ = some (.int .i64 r2.err) := World.rowIs.cell hSw (i := 5) (by decide); have i6 : wS.cell? ⟨b, 6, none⟩ = some (.int .i64 (r2.bad : Int)) := World.rowIs.cell hSw (i := 6) (by decide))
          go_simp
          all_goals with_reducible rfl
        (try simp only [List.getElem_toArray, List.getElem_cons_zero, List.getElem_cons_succ, Act.put, List.setIfInBounds_toArray, List.set_cons_zero, List.set_cons_succ])
        refine wpAnyH_take (i := 5) (v := ?_) rfl (by kernel_rfl) (by kernel_rfl) (by kernel_rfl) (fun _ _ _ h => h) (Or.inl ⟨by rfl, ?_⟩) (by assumption) ?_
        rotate_left
        · intro wS hSw
          (have i5 : wS.cell? ⟨b, 5, none⟩ = some (.int .i64 r2.err) := World.rowIs.cell hSw (i := 5) (by decide); have i6 : wS.cell? ⟨b, 6, none⟩ = some (.int .i64 (r2.bad : Int)) := World.rowIs.cell hSw (i := 6) (by decide))
          go_simp
          all_goals with_reducible rfl
        (try simp only [List.getElem_toArray, List.getElem_cons_zero, List.getElem_cons_succ, Act.put, List.setIfInBounds_toArray, List.set_cons_zero, List.set_cons_succ])
        refine wpAnyH_take (i := 6) (v := ?_) rfl (by kernel_rfl) (by kernel_rfl) (by kernel_rfl) (fun _ _ _ h => h) (Or.inl ⟨by rfl, ?_⟩) (by assumption) ?_
        rotate_left
        · intro wS hSw
          (have i5 : wS.cell? ⟨b, 5, none⟩ = some (.int .i64 r2.err) := World.rowIs.cell hSw (i := 5) (by decide); have i6 : wS.cell? ⟨b, 6, none⟩ = some (.int .i64 (r2.bad : Int)) := World.rowIs.cell hSw (i := 6) (by decide))
          go_simp
          all_goals with_reducible rfl
        (try simp only [List.getElem_toArray, List.getElem_cons_zero, List.getElem_cons_succ, Act.put, List.setIfInBounds_toArray, List.set_cons_zero, List.set_cons_succ])
        refine wpAnyH_take (i := 7) (v := ?_) rfl (by kernel_rfl) (by kernel_rfl) (by kernel_rfl) (fun _ _ _ h => h) (Or.inl ⟨by rfl, ?_⟩) (by assumption) ?_
        rotate_left
        · intro wS hSw
          (have i5 : wS.cell? ⟨b, 5, none⟩ = some (.int .i64 r2.err) := World.rowIs.cell hSw (i := 5) (by decide); have i6 : wS.cell? ⟨b, 6, none⟩ = some (.int .i64 (r2.bad : Int)) := World.rowIs.cell hSw (i := 6) (by decide))
          go_simp
          all_goals with_reducible rfl
        (try simp only [List.getElem_toArray, List.getElem_cons_zero, List.getElem_cons_succ, Act.put, List.setIfInBounds_toArray, List.set_cons_zero, List.set_cons_succ])
        refine wpAnyH_take (i := 8) (v := ?_) rfl (by kernel_rfl) (by kernel_rfl) (by kernel_rfl) (fun _ _ _ h => h) (Or.inl ⟨by rfl, ?_⟩) (by assumption) ?_
        rotate_left
        · intro wS hSw
          (have i5 : wS.cell? ⟨b, 5, none⟩ = some (.int .i64 r2.err) := World.rowIs.cell hSw (i := 5) (by decide); have i6 : wS.cell? ⟨b, 6, none⟩ = some (.int .i64 (r2.bad : Int)) := World.rowIs.cell hSw (i := 6) (by decide))
          go_simp
          all_goals with_reducible rfl
        (try simp only [List.getElem_toArray, List.getElem_cons_zero, List.getElem_cons_succ, Act.put, List.setIfInBounds_toArray, List.set_cons_zero, List.set_cons_succ])
        refine held_one (i := 9) (by kernel_rfl) rfl (fun K hK => ?_)
        go_simp
        refine hK.out _ _ (row_new (row_new (row_new (row_new (row_new (row_new h6 hbR 0 _) hbR 1 _) hbR 2 _) hbR 3 _) hbR 4 _) hbR 5 _) (fun hH2 => ?_)
        clear hK K hHeld
        refine wpAnyH_take (i := 10) (v := ?_) rfl (by kernel_rfl) (by kernel_rfl) (by kernel_rfl) (fun _ _ _ h => h) (Or.inl ⟨by rfl, ?_⟩) (by assumption) ?_
        rotate_left
        · intro wS hSw
          (skip)
          go_simp
          all_goals with_reducible rfl
        (try simp only [List.getElem_toArray, List.getElem_cons_zero, List.getElem_cons_succ, Act.put, List.setIfInBounds_toArray, List.set_cons_zero, List.set_cons_succ])
        refine wpAnyH_take (i := 11) (v := ?_) rfl (by kernel_rfl) (by kernel_rfl) (by kernel_rfl) (fun _ _ _ h => h) (Or.inl ⟨by rfl, ?_⟩) (by assumption) ?_
        rotate_left
        · intro wS hSw
          (skip)
          go_simp
          all_goals with_reducible rfl
        (try simp only [List.getElem_toArray, List.getElem_cons_zero, List.getElem_cons_succ, Act.put, List.setIfInBounds_toArray, List.set_cons_zero, List.set_cons_succ])
        refine wpAnyH_done (by kernel_rfl) ?_ _
        go_wp2
        exact bodyPost_ret (v := .tuple #[poV ⟨#[]⟩ 0 0 0 0 (.slice none 0 0), .int .i64 r2.err, .int .i64 (r2.bad : Int)]) (by simp [results, Tryz.results14, go_sem, u0, u1, u2, u3, u4, u5, World.cell?_setCell_same']) rfl ⟨rfl, (((((H6.out.2.2.setCell (p := ⟨w.heap.size, 0, none⟩) (Nat.le_refl _) _).setCell (p := ⟨w.heap.size, 1, none⟩) (Nat.le_refl _) _).setCell (p := ⟨w.heap.size, 2, none⟩) (Nat.le_refl _) _).setCell (p := ⟨w.heap.size, 3, none⟩) (Nat.le_refl _) _).setCell (p := ⟨w.heap.size, 4, none⟩) (Nat.le_refl _) _).setCell (p := ⟨w.heap.size, 5, none⟩) (Nat.le_refl _) _⟩
    · have heb : (rr.err == 0) = false := beq_false_of_ne he
      rw [if_pos he] at hrest
      injection hrest with hrest
      injection hrest with e1 e2
      subst e1
      subst e2
      clear he hIs hFa hRu hgo hll hjl hjl2 hdeep gA gB HPk hnv
      go_wp2_with (first
        | (go_at_call 36; (with_reducible refine (HK.out _ HT.out.rd).mono ?_); rintro e w5 ⟨rfl, hr5, hg5⟩; have H5 := Lib.hid (HT.out.call hr5 hg5); have c5 : w5.cell? ⟨b, 5, none⟩ = some (.int .i64 r2.err) := World.rowIs.cell H5.out.rd.row (i := 5) (by decide); have c6 : w5.cell? ⟨b, 6, none⟩ = some (.int .i64 (r2.bad : Int)) := World.rowIs.cell H5.out.rd.row (i := 6) (by decide); have hE5 := H5.out.box; have hR5 := H5.out.res; have hlw : w.heap.size < w5.heap.size := (Array.getElem?_eq_some_iff.1 hR5).1; have m0 := cell6 hE5 0 rfl; have m1 := cell6 hE5 1 rfl; have m2 := cell6 hE5 2 rfl; have m3 := cell6 hE5 3 rfl; have m4 := cell6 hE5 4 rfl; have m5 := cell6 hE5 5 rfl; have u0 := cell6 hR5 0 rfl; have u1 := cell6 hR5 1 rfl; have u2 := cell6 hR5 2 rfl; have u3 := cell6 hR5 3 rfl; have u4 := cell6 hR5 4 rfl; have u5 := cell6 hR5 5 rfl; have y0 := frozen6 hR5 0; have y1 := frozen6 hR5 1; have y2 := frozen6 hR5 2; have y3 := frozen6 hR5 3; have y4 := frozen6 hR5 4; have y5 := frozen6 hR5 5; clear hr5 hg5 hE5 hR5))
      refine wp_region_held_drew (S := fun W' => W'.rowIs b 82 7 (rdV A cap S r2)) (by kernel_rfl) H5.out.rd.row (fun hHeld => ?_)
      have H6 : Hid (w5.drew.rowIs b 82 7 (rdV A cap S r2) ∧ w5.drew.heap[w.heap.size]? = some (poO ⟨#[]⟩ 0 0 0 0 (.slice none 0 0)) ∧ Below w.heap.size w w5.drew) := Lib.hid ⟨H5.out.rd.row, H5.out.res, below_drawn H5.out.bel 1⟩
      have hlY : w.heap.size < w5.drew.heap.size := hlw
      have hbR : b ≠ w.heap.size := by have := H5.out.wb; omega
      clear c5 c6 u0 u1 u2 u3 u4 u5 y0 y1 y2 y3 y4 y5 m0 m1 m2 m3 m4 m5 hlw H5
      generalize w5.drew = Y at H6 hlY ⊢
      have h6 : Y.rowIs b 82 7 (rdV A cap S r2) := H6.out.1
      have u0 := cell6 H6.out.2.1 0 rfl
      have u1 := cell6 H6.out.2.1 1 rfl
      have u2 := cell6 H6.out.2.1 2 rfl
      have u3 := cell6 H6.out.2.1 3 rfl
      have u4 := cell6 H6.out.2.1 4 rfl
      have u5 := cell6 H6.out.2.1 5 rfl
      have y0 := frozen6 H6.out.2.1 0
      have y1 := frozen6 H6.out.2.1 1
      have y2 := frozen6 H6.out.2.1 2
      have y3 := frozen6 H6.out.2.1 3
      have y4 := frozen6 H6.out.2.1 4
      have y5 := frozen6 H6.out.2.1 5
      refine wpAnyH_take (i := 0) (v := ?_) rfl (by kernel_rfl) (by kernel_rfl) (by kernel_rfl) (fun _ _ _ h => h) (Or.inl ⟨by rfl, ?_⟩) (by assumption) ?_
      rotate_left
      · intro wS hSw
        (have i5 : wS.cell? ⟨b, 5, none⟩ = some (.int .i64 r2.err) := World.rowIs.cell hSw (i := 5) (by decide); have i6 : wS.cell? ⟨b, 6, none⟩ = some (.int .i64 (r2.bad : Int)) := World.rowIs.cell hSw (i := 6) (by decide))
        go_simp
        all_goals with_reducible rfl
      (try simp only [List.getElem_toArray, List.getElem_cons_zero, List.getElem_cons_succ, Act.put, List.setIfInBounds_toArray, List.set_cons_zero, List.set_cons_succ])
      refine wpAnyH_take (i := 1) (v := ?_) rfl (by kernel_rfl) (by kernel_rfl) (by kernel_rfl) (fun _ _ _ h => h) (Or.inl ⟨by rfl, ?_⟩) (by assumption) ?_
      rotate_left
      · intro wS hSw
        (have i5 : wS.cell? ⟨b, 5, none⟩ = some (.int .i64 r2.err) := World.rowIs.cell hSw (i := 5) (by decide); have i6 : wS.cell? ⟨b, 6, none⟩ = some (.int .i64 (r2.bad : Int)) := World.rowIs.cell hSw (i := 6) (by decide))
        go_simp
        all_goals with_reducible rfl
      (try simp only [List.getElem_toArray, List.getElem_cons_zero, List.getElem_cons_succ, Act.put, List.setIfInBounds_toArray, List.set_cons_zero, List.set_cons_succ])
      refine wpAnyH_take (i := 2) (v := ?_) rfl (by kernel_rfl) (by kernel_rfl) (by kernel_rfl) (fun _ _ _ h => h) (Or.inl ⟨by rfl, ?_⟩) (by assumption) ?_
      rotate_left
      · intro wS hSw
        (have i5 : wS.cell? ⟨b, 5, none⟩ = some (.int .i64 r2.err) := World.rowIs.cell hSw (i := 5) (by decide); have i6 : wS.cell? ⟨b, 6, none⟩ = some (.int .i64 (r2.bad : Int)) := World.rowIs.cell hSw (i := 6) (by decide))
        go_simp
        all_goals with_reducible rfl
      (try simp only [List.getElem_toArray, List.getElem_cons_zero, List.getElem_cons_succ, Act.put, List.setIfInBounds_toArray, List.set_cons_zero, List.set_cons_succ])
      refine wpAnyH_take (i := 3) (v := ?_) rfl (by kernel_rfl) (by kernel_rfl) (by kernel_rfl) (fun _ _ _ h => h) (Or.inl ⟨by rfl, ?_⟩) (by assumption) ?_
      rotate_left
      · intro wS hSw
        (have i5 : wS.cell? ⟨b, 5, none⟩ = some (.int .i64 r2.err) := World.rowIs.cell hSw (i := 5) (by decide); have i6 : wS.cell? ⟨b, 6, none⟩ = some (.int .i64 (r2.bad : Int)) := World.rowIs.cell hSw (i := 6) (by decide))
        go_simp
        all_goals with_reducible rfl
      (try simp only [List.getElem_toArray, List.getElem_cons_zero, List.getElem_cons_succ, Act.put, List.setIfInBounds_toArray, List.set_cons_zero, List.set_cons_succ])
      refine wpAnyH_take (i := 4) (v := ?_) rfl (by kernel_rfl) (by kernel_rfl) (by kernel_rfl) (fun _ _ _ h => h) (Or.inl ⟨by rfl, ?_⟩) (by assumption) ?_
      rotate_left
      · intro wS hSw
        (have i5 : wS.cell? ⟨b, 5, none⟩ = some (.int .i64 r2.err) := World.rowIs.cell hSw (i := 5) (by decide); have i6 : wS.cell? ⟨b, 6, none⟩ = some (.int .i64 (r2.bad : Int)) := World.rowIs.cell hSw (i := 6) (by decide))
        go_simp
        all_goals with_reducible rfl
      (try simp only [List.getElem_toArray, List.getElem_cons_zero, List.getElem_cons_succ, Act.put, List.setIfInBounds_toArray, List.set_cons_zero, List.set_cons_succ])
      refine wpAnyH_take (i := 5) (v := ?_) rfl (by kernel_rfl) (by kernel_rfl) (by kernel_rfl) (fun _ _ _ h => h) (Or.inl ⟨by rfl, ?_⟩) (by assumption) ?_
      rotate_left
      · intro wS hSw
        (have i5 : wS.cell? ⟨b, 5, none⟩ = some (.int .i64 r2.err) := World.rowIs.cell hSw (i := 5) (by decide); have i6 : wS.cell? ⟨b, 6, none⟩ = some (.int .i64 (r2.bad : Int)) := World.rowIs.cell hSw (i := 6) (by decide))
        go_simp
        all_goals with_reducible rfl
      (try simp only [List.getElem_toArray, List.getElem_cons_zero, List.getElem_cons_succ, Act.put, List.setIfInBounds_toArray, List.set_cons_zero, List.set_cons_succ])
      refine wpAnyH_take (i := 6) (v := ?_) rfl (by kernel_rfl) (by kernel_rfl) (by kernel_rfl) (fun _ _ _ h => h) (Or.inl ⟨by rfl, ?_⟩) (by assumption) ?_
      rotate_left
      · intro wS hSw
        (have i5 : wS.cell? ⟨b, 5, none⟩ = some (.int .i64 r2.err) := World.rowIs.cell hSw (i := 5) (by decide); have i6 : wS.cell? ⟨b, 6, none⟩ = some (.int .i64 (r2.bad : Int)) := World.rowIs.cell hSw (i := 6) (by decide))
        go_simp
        all_goals with_reducible rfl
      (try simp only [List.getElem_toArray, List.getElem_cons_zero, List.getElem_cons_succ, Act.put, List.setIfInBounds_toArray, List.set_cons_zero, List.set_cons_succ])
      refine wpAnyH_take (i := 7) (v := ?_) rfl (by kernel_rfl) (by kernel_rfl) (by kernel_rfl) (fun _ _ _ h => h) (Or.inl ⟨by rfl, ?_⟩) (by assumption) ?_
      rotate_left
      · intro wS hSw
        (have i5 : wS.cell? ⟨b, 5, none⟩ = some (.int .i64 r2.err) := World.rowIs.cell hSw (i := 5) (by decide); have i6 : wS.cell? ⟨b, 6, none⟩ = some (.int .i64 (r2.bad : Int)) := World.rowIs.cell hSw (i := 6) (by decide))
        go_simp
        all_goals with_reducible rfl
      (try simp only [List.getElem_toArray, List.getElem_cons_zero, List.getElem_cons_succ, Act.put, List.setIfInBounds_toArray, List.set_cons_zero, List.set_cons_succ])
      refine wpAnyH_take (i := 8) (v := ?_) rfl (by kernel_rfl) (by kernel_rfl) (by kernel_rfl) (fun _ _ _ h => h) (Or.inl ⟨by rfl, ?_⟩) (by assumption) ?_
      rotate_left
      · intro wS hSw
        (have i5 : wS.cell? ⟨b, 5, none⟩ = some (.int .i64 r2.err) := World.rowIs.cell hSw (i := 5) (by decide); have i6 : wS.cell? ⟨b, 6, none⟩ = some (.int .i64 (r2.bad : Int)) := World.rowIs.cell hSw (i := 6) (by decide))
        go_simp
        all_goals with_reducible rfl
      (try simp only [List.getElem_toArray, List.getElem_cons_zero, List.getElem_cons_succ, Act.put, List.setIfInBounds_toArray, List.set_cons_zero, List.set_cons_succ])
      refine held_one (i := 9) (by kernel_rfl) rfl (fun K hK => ?_)
      go_simp
      refine hK.out _ _ (row_new (row_new (row_new (row_new (row_new (row_new h6 hbR 0 _) hbR 1 _) hbR 2 _) hbR 3 _) hbR 4 _) hbR 5 _) (fun hH2 => ?_)
      clear hK K hHeld
      refine wpAnyH_take (i := 10) (v := ?_) rfl (by kernel_rfl) (by kernel_rfl) (by kernel_rfl) (fun _ _ _ h => h) (Or.inl ⟨by rfl, ?_⟩) (by assumption) ?_
      rotate_left
      · intro wS hSw
        (skip)
        go_simp
        all_goals with_reducible rfl
      (try simp only [List.getElem_toArray, List.getElem_cons_zero, List.getElem_cons_succ, Act.put, List.setIfInBounds_toArray, List.set_cons_zero, List.set_cons_succ])
      refine wpAnyH_take (i := 11) (v := ?_) rfl (by kernel_rfl) (by kernel_rfl) (by kernel_rfl) (fun _ _ _ h => h) (Or.inl ⟨by rfl, ?_⟩) (by assumption) ?_
      rotate_left
      · intro wS hSw
        (skip)
        go_simp
        all_goals with_reducible rfl
      (try simp only [List.getElem_toArray, List.getElem_cons_zero, List.getElem_cons_succ, Act.put, List.setIfInBounds_toArray, List.set_cons_zero, List.set_cons_succ])
      refine wpAnyH_done (by kernel_rfl) ?_ _
      go_wp2
      exact bodyPost_ret (v := .tuple #[poV ⟨#[]⟩ 0 0 0 0 (.slice none 0 0), .int .i64 r2.err, .int .i64 (r2.bad : Int)]) (by simp [results, Tryz.results14, go_sem, u0, u1, u2, u3, u4, u5, World.cell?_setCell_same']) rfl ⟨rfl, (((((H6.out.2.2.setCell (p := ⟨w.heap.size, 0, none⟩) (Nat.le_refl _) _).setCell (p := ⟨w.heap.size, 1, none⟩) (Nat.le_refl _) _).setCell (p := ⟨w.heap.size, 2, none⟩) (Nat.le_refl _) _).setCell (p := ⟨w.heap.size, 3, none⟩) (Nat.le_refl _) _).setCell (p := ⟨w.heap.size, 4, none⟩) (Nat.le_refl _) _).setCell (p := ⟨w.heap.size, 5, none⟩) (Nat.le_refl _) _⟩
end Go.Proofs.YtgeapkjegemkeaaGreatDoor
namespace Go.Proofs.YtgeapkjegemkeaaGreatDoor
open Go Go.RowKit
set_option linter.unusedSimpArgs false
set_option linter.unusedVariables false

end Go.Proofs.YtgeapkjegemkeaaGreatDoor
namespace Go.Proofs.YtgeapkjegemkeaaGreatDoor
open Go Go.RowKit
set_option linter.unusedSimpArgs false
set_option linter.unusedVariables false

theorem lives_expr : exprF ⟨#[110, 111, 116, 32, 97, 114, 103, 49, 32, 38, 32, 55, 32, 62, 61, 32, 50]⟩ = .ok (.node 3 [.mk 6 [] 1 7 6 2]) 6 := by kernel_rfl
theorem ex_args6 {w : World} {F : Nat → Prop} {y : Ex} {o : Int} {A : Option Addr} {cap : Nat} (h : ExIn w F (.node o [y]) A cap) :
    ∃ tb, A = some ⟨tb, 0, none⟩ ∧ tb < w.heap.size ∧ F tb ∧ ∃ A' cap', ExIn w F y A' cap' ∧ ∀ j u, (exC y A' cap')[j]? = some u → w.cell? ⟨tb, j, none⟩ = some u := by
  rcases h with ⟨h1, _⟩ | ⟨h1, tb, h2, h3, h4, ⟨⟨A', cap', g1, g2⟩, _⟩⟩
  · cases h1
  · exact ⟨tb, h2, h4, h3, A', cap', g1, fun j u hj => by have := g2 j u hj; rw [Nat.zero_add] at this; exact this⟩
set_option maxRecDepth 100000 in
theorem lives_is6 (w : World) : Calls Tryz.prog 6 #[] w fun e w' => e = .returned (.bool true) ∧ Below w.heap.size w w' := by
  have hP := p_ParseExpr ⟨#[110, 111, 116, 32, 97, 114, 103, 49, 32, 38, 32, 55, 32, 62, 61, 32, 50]⟩ w
  rw [lives_expr] at hP
  have HP := Lib.hid hP
  clear hP
  go_enter Tryz.func6, Tryz.ntmps6
  go_wp2_with (go_at_call 10; (with_reducible refine HP.out.mono ?_); rintro e w1 ⟨v, rfl, ⟨A, cap, hv, hx⟩, hb⟩; obtain ⟨tb, rfl, htl, _, A1, cap1, hx1, hc1⟩ := ex_args6 hx; obtain rfl : v = .agg #[.int .i64 3, .slice (some ⟨tb, 0, none⟩) 1 cap, .int .i64 0, .int .u64 0, .int .i64 0, .int .u64 0] := hv; have a2 : w1.cell? ⟨tb, 2, none⟩ = some (.int .i64 1) := hc1 2 _ rfl; have a3 : w1.cell? ⟨tb, 3, none⟩ = some (.int .u64 7) := hc1 3 _ rfl; have a4 : w1.cell? ⟨tb, 4, none⟩ = some (.int .i64 6) := hc1 4 _ rfl; have a5 : w1.cell? ⟨tb, 5, none⟩ = some (.int .u64 2) := hc1 5 _ rfl; have HB := Lib.hid hb; clear hb hc1 hx1 hx)
  go_ret
  exact ⟨rfl, HB.out.trans ((lbox _ _).mono HB.out.size)⟩
end Go.Proofs.YtgeapkjegemkeaaGreatDoor
namespace Go.Proofs.YtgeapkjegemkeaaGreatDoor
open Go Go.RowKit
set_option linter.unusedSimpArgs false
set_option linter.unusedVariables false

/-- A policy, as the document reads it, and as the grammar does. -/
theorem parse_all (s : ByteArray) : ∃ lr re, rulesS (srcF s) ((srcF s).toks.length + 1) ((srcF s).toks.length + 1) [] (q9 (srcF s) ⟨0, 0, 0, 0⟩) = some (lr, re) ∧ match policyF s with
    | .ok p _ => p = ⟨((q1 (srcF s) ⟨0, 0, 0, 0⟩).kindT (srcF s) 2).text, verdT (srcF s) (q4 (srcF s) ⟨0, 0, 0, 0⟩), verdT (srcF s) (q7 (srcF s) ⟨0, 0, 0, 0⟩), lr⟩ ∧ (re.kindR (srcF s) 1).err = 0
    | .bad e p => e ≠ 0 ∧ (re.kindR (srcF s) 1).err = e ∧ (re.kindR (srcF s) 1).bad = p
    | .out => False := by
  have hS := lexd s
  have key : Shut (srcF s) (parseS (srcF s) ((srcF s).toks.length + 1) ⟨0, 0, 0, 0⟩) (policyF s) := by
    unfold policyF readG
    by_cases h0 : 0 < (srcF s).toks.length
    · rw [if_pos h0]
      exact parse_sim hS (Nat.lt_succ_self _) ((start_sim hS).1 h0)
    · rw [if_neg h0]
      have hb := (start_sim hS).2 h0
      have h3 := ((hb.want 2 bArch).kind 2).1.want 4 bSemi
      have h6 := (verd_bad (h3.want 2 bForeign)).want 4 bSemi
      have h9 := (verd_bad (h6.want 2 bDefault)).want 4 bSemi
      exact (parse_bad (Nat.succ_pos _) h9).shut
  obtain ⟨⟨p, re⟩, hx, hm⟩ := key
  unfold parseS at hx
  cases hr : rulesS (srcF s) ((srcF s).toks.length + 1) ((srcF s).toks.length + 1) [] (q9 (srcF s) ⟨0, 0, 0, 0⟩) with
  | none => rw [hr] at hx; cases hx
  | some y =>
    rw [hr] at hx
    injection hx with hx
    injection hx with e1 e2
    refine ⟨y.1, y.2, rfl, ?_⟩
    subst e2
    generalize policyF s = g at hm ⊢
    rcases g with ⟨v, j⟩ | ⟨e, q⟩ | _
    · exact ⟨hm.1.symm.trans e1.symm, hm.2⟩
    · exact hm
    · exact hm
theorem rd6_Parse (s : ByteArray) (w : World) (hm : s.size ≤ maxLen) : Calls Tryz.prog 14 #[.string s] w (ParseP (PoP w.heap.size) (poV ⟨#[]⟩ 0 0 0 0 (.slice none 0 0)) w (policyF s)) := by
  obtain ⟨lr, re, hr, hp⟩ := parse_all s
  generalize policyF s = g at hp ⊢
  rcases g with ⟨v, j⟩ | ⟨e, q⟩ | _
  · obtain ⟨rfl, h0⟩ := hp
    exact rd6_Parse_ok s w hm _ lr re hr h0 j _ _ _ _ _ rfl rfl rfl
  · obtain ⟨h0, rfl, rfl⟩ := hp
    exact rd6_Parse_bad s w hm _ lr re hr h0 _ _ _ _ _ rfl rfl rfl
  · exact hp.elim
/-- What Parse answers: a policy, an error, a place. -/
def zeroPo : Po := ⟨⟨#[]⟩, (0, 0), (0, 0), []⟩
def resPo : Got Po → Po × Int × Nat
  | .ok p _ => (p, 0, 0)
  | .bad e q => (zeroPo, e, q)
  | .out => (zeroPo, 0, 0)
def resEx : Got Ex → Ex × Int × Nat
  | .ok p _ => (p, 0, 0)
  | .bad e q => (.zero, e, q)
  | .out => (.zero, 0, 0)
theorem u_po {f : Nat} {args : Array Value} {w : World} {g : Got Po} (h : Calls Tryz.prog f args w (ParseP (PoP w.heap.size) (poV ⟨#[]⟩ 0 0 0 0 (.slice none 0 0)) w g)) :
    Calls Tryz.prog f args w (fun e w' => ∃ R, e = .returned (.tuple #[poV (resPo g).1.arch (resPo g).1.foreign_.1 ((resPo g).1.foreign_.2 : Int) (resPo g).1.default_.1 ((resPo g).1.default_.2 : Int) R, .int .i64 (resPo g).2.1, .int .i64 ((resPo g).2.2 : Int)]) ∧ RulesP w.heap.size (resPo g).1.rules R w' ∧ Below w.heap.size w w') := by
  refine h.mono fun e w' hp => ?_
  rcases g with ⟨v, j⟩ | ⟨er, q⟩ | _
  · obtain ⟨v', rfl, ⟨R, rfl, hR⟩, hb⟩ := hp
    exact ⟨R, rfl, hR, hb⟩
  · obtain ⟨rfl, hb⟩ := hp
    exact ⟨.slice none 0 0, rfl, .inl ⟨rfl, rfl⟩, hb⟩
  · exact hp.elim
theorem u_ex {f : Nat} {args : Array Value} {w : World} {g : Got Ex} (h : Calls Tryz.prog f args w (ParseP (ExP w.heap.size) (leafVal 0 0 0 0 0) w g)) :
    Calls Tryz.prog f args w (fun e w' => ∃ A c, e = .returned (.tuple #[exV (resEx g).1 A c, .int .i64 (resEx g).2.1, .int .i64 ((resEx g).2.2 : Int)]) ∧ ExIn w' (fun k => w.heap.size ≤ k) (resEx g).1 A c ∧ Below w.heap.size w w') := by
  refine h.mono fun e w' hp => ?_
  rcases g with ⟨v, j⟩ | ⟨er, q⟩ | _
  · obtain ⟨v', rfl, ⟨A, c, rfl, hR⟩, hb⟩ := hp
    exact ⟨A, c, rfl, hR, hb⟩
  · obtain ⟨rfl, hb⟩ := hp
    exact ⟨none, 0, rfl, .inl ⟨rfl, rfl, rfl⟩, hb⟩
  · exact hp.elim
theorem sm_resPo (s : ByteArray) : SmPo (resPo (policyF s)).1 := by
  have h : All SmPo (policyF s) := by
    unfold policyF readG
    exact all_ite (sm_policy (src_small s) _ _) (all_bad _ _)
  generalize policyF s = g at h
  rcases g with ⟨v, j⟩ | ⟨er, q⟩ | _
  · exact h v j rfl
  · exact ⟨Nat.zero_le _, fun r hr => by cases hr⟩
  · exact ⟨Nat.zero_le _, fun r hr => by cases hr⟩
theorem sm_resEx (s : ByteArray) : SmEx (resEx (exprF s)).1 := by
  have h : All SmEx (exprF s) := by
    unfold exprF readG
    by_cases h0 : 0 < (srcF s).toks.length
    · rw [if_pos h0]; exact sm_whole (src_small s) _ _ h0
    · rw [if_neg h0]; exact all_bad _ _
  generalize exprF s = g at h
  rcases g with ⟨v, j⟩ | ⟨er, q⟩ | _
  · exact h v j rfl
  · exact sm_leaf _ _ _ _ _
  · exact sm_leaf _ _ _ _ _
end Go.Proofs.YtgeapkjegemkeaaGreatDoor
