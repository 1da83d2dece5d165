/-
  The document reads expressions whole: contracts; and what calls, conditions and rules come to, as plain functions. Conditions: those that each names.
-/
import Derived.Test.YtgeapkjegemkeaaDoorPolDAll
import Derived.Test.YtgeapkjegemkeaaDoorPolPure
import Derived.Test.YtgeapkjegemkeaaDoorLexToks
import Derived.Test.YtgeapkjegemkeaaDoorPDefs
namespace Go.Proofs.YtgeapkjegemkeaaDoor
open Go Go.RowKit
set_option linter.unusedSimpArgs false
set_option linter.unusedVariables false

theorem own_tok6 {w : World} {base : Nat} {v : Value} {l : List Nx} (h : w.ownsRow base 88 4 v l.length (tksC l)) : ∃ A cap, v = .slice A l.length cap ∧ TokAt w A l.length (fun i => l.getD i noT) ∧ (0 < l.length → ∃ b o, A = some ⟨b, o, none⟩ ∧ b < w.heap.size) := by
  obtain ⟨A, cap, rfl, ht⟩ := own_tok h
  refine ⟨A, cap, rfl, ht, fun hn => ?_⟩
  obtain ⟨b, o, e, hl, _⟩ := ht hn
  exact ⟨b, o, e, hl⟩
/-- What reader leaves: a reader at the text's start. -/
def ReaderP (s : ByteArray) (w : World) (e : Ending) (w' : World) : Prop :=
  ∃ b A cap, e = .returned (.pointer (some ⟨b, 0, none⟩)) ∧ RdAt w' b A cap (srcF s) ⟨0, 0, 0, 0⟩ ∧ Below w.heap.size w w' ∧ w.heap.size ≤ b
set_option maxHeartbeats 2000000 in
set_option maxRecDepth 100000 in
theorem rd6_reader (s : ByteArray) (w : World) (hm : s.size ≤ maxLen) (hs : (srcF s).toks.length ≤ 65537) : Calls Tryd.prog 26 #[.string s] w (ReaderP s w) := by
  have HT := Lib.hid (ref_Tokens (s := s) (w := w) hm)
  have HS := Lib.hid hs
  clear hs
  go_enter Tryd.func26, Tryd.ntmps26
  go_wp2_with (first | (go_at_call 40; (with_reducible refine HT.out.mono ?_); rintro e w1 ⟨v, rfl, ho, hb⟩; obtain ⟨A, cap, rfl, ht, hl⟩ := own_tok6 ho; have H1 := Lib.hid (And.intro ht (And.intro hl hb)); clear ho hb ht hl))
  obtain ⟨ht, hl, hb⟩ := H1.out
  exact bodyPost_ret (v := .pointer (some ⟨w1.heap.size, 0, none⟩)) (by simp [results, Tryd.results26, go_sem]) rfl ⟨_, A, cap, rfl, ⟨World.rowIs_alloc w1 _ 93 (rdV A cap (srcF s) ⟨0, 0, 0, 0⟩) (lt_cases7 rfl rfl rfl rfl rfl rfl rfl), ht.below (lbox w1 _), hl, HS.out⟩, hb.trans ((lbox w1 _).mono hb.size), hb.size⟩
end Go.Proofs.YtgeapkjegemkeaaDoor
namespace Go.Proofs.YtgeapkjegemkeaaDoor
open Go Go.RowKit
set_option linter.unusedSimpArgs false
set_option linter.unusedVariables false

end Go.Proofs.YtgeapkjegemkeaaDoor
namespace Go.Proofs.YtgeapkjegemkeaaDoor
open Go Go.RowKit
set_option linter.unusedSimpArgs false
set_option linter.unusedVariables false

section
variable {S : Src}
theorem end_at {r : Rd} {i d : Nat} (h : At S r i d) (hk : (tk S i).kind = 1) : (r.kindR S 1).err = 0 := by
  unfold Rd.kindR
  rw [h.peekT, if_pos hk, h.peekR, h.nextR]
  exact h.err
theorem end_no {r : Rd} {i d : Nat} (h : At S r i d) (hk : (tk S i).kind ≠ 1) : (r.kindR S 1).err = 61 ∧ (r.kindR S 1).bad = (tk S i).pos := by
  unfold Rd.kindR
  rw [h.peekT, if_neg hk, h.peekR]
  unfold Rd.fails
  rw [if_pos h.err]
  exact ⟨rfl, rfl⟩
theorem end_bad {r : Rd} {e : Int} {p : Nat} (h : Bad S r e p) : (r.kindR S 1).err = e ∧ (r.kindR S 1).bad = p := by
  unfold Rd.kindR
  rw [h.noT_of, if_neg (show ¬ noT.kind = 1 by decide)]
  rw [Rd.fails_err _ _ _ h.stuck]
  exact ⟨h.err, h.bad⟩
theorem start_sim (hS : Lexd S) : (0 < S.toks.length → At S ⟨0, 0, 0, 0⟩ 0 0) ∧ (¬ 0 < S.toks.length → Bad S ⟨0, 0, 0, 0⟩ S.err S.place) := by
  refine ⟨fun h => ⟨rfl, rfl, rfl, h⟩, fun h => ?_⟩
  have e : (⟨0, 0, 0, 0⟩ : Rd).peekR S = { (⟨0, 0, 0, 0⟩ : Rd) with err := S.err, bad := S.place } := if_pos ⟨rfl, h⟩
  exact ⟨hS.start.resolve_left h, by rw [e], by rw [e]⟩
/-- An expression, as the document reads it, and as the grammar does. -/
theorem exprN_sim (hS : Lexd S) {n : Nat} (hn : S.toks.length < n) :
    (0 < S.toks.length → SimO S 0 (exprN S n ⟨0, 0, 0, 0⟩) (exprG S n 0 0)) ∧ (¬ 0 < S.toks.length → BadO S S.err S.place (exprN S n ⟨0, 0, 0, 0⟩)) := by
  have h1 := one_simN hS n 0 (by decide)
  have h2 := expr_sim (d := 0) (by omega) hS h1.1 (h1.2 (by omega)) (fun i hi => fwd_one n 0 i hi)
  exact ⟨fun h => h2.1 _ 0 ((start_sim hS).1 h) (by omega), fun h => h2.2 _ _ _ ((start_sim hS).2 h)⟩
end
end Go.Proofs.YtgeapkjegemkeaaDoor
namespace Go.Proofs.YtgeapkjegemkeaaDoor
open Go Go.RowKit
set_option linter.unusedSimpArgs false
set_option linter.unusedVariables false

/-- The calls of a rule. -/
def callsS (S : Src) : Nat → List (ByteArray × Nat) → Rd → Option (List (ByteArray × Nat) × Rd)
  | 0, _, _ => none
  | n + 1, l, r => if (callR S r).isB S 4 bComma = true then callsS S n (l ++ [callT S r]) ((callR S r).isR S 4 bComma) else some (l ++ [callT S r], (callR S r).isR S 4 bComma)
section
variable {S : Src}
theorem bad_call6 {r : Rd} {e : Int} {p : Nat} (h : Bad S r e p) : Bad S (callR S r) e p := by
  unfold callR
  rw [h.noT_of, if_neg (show ¬ noT.kind = 2 by decide), if_neg (show ¬ noT.kind = 3 by decide), Rd.fails_err _ _ _ h.stuck]
  exact h.peeked
theorem calls_bad {n : Nat} {l : List (ByteArray × Nat)} {r : Rd} {e : Int} {p : Nat} (hn : 0 < n) (h : Bad S r e p) : BadO S e p (callsS S n l r) := by
  obtain ⟨m, rfl⟩ := Nat.exists_eq_succ_of_ne_zero (by omega : n ≠ 0)
  have hi := (bad_call6 h).is 4 bComma
  unfold callsS
  rw [if_neg (by rw [hi.2]; decide)]
  exact ⟨_, rfl, hi.1⟩
theorem calls_sim (hS : Lexd S) : ∀ n l r i, At S r i 0 → S.toks.length - i ≤ n → SimO S 0 (callsS S n l r) ((callG S i).andThen fun x j => turnsG S bComma (callG S) n (l ++ [x]) j)
  | 0, l, r, i, h, hn => by have := h.lt; omega
  | n + 1, l, r, i, h, hn => by
    have hc := call_sim h hS
    have hf := fwd_call (S := S) i
    have hlt := h.lt
    unfold callsS
    generalize callG S i = g at hc hf ⊢
    rcases g with ⟨v, j⟩ | ⟨e, p⟩ | _
    · obtain ⟨hv, ha⟩ := hc
      simp only at hv ha
      have hlj := ha.lt
      have hij : i + 1 ≤ j := (hf v j rfl).1
      rw [hv, ha.isB hS (show kindOf bComma = 4 by decide), ha.isR hS (show kindOf bComma = 4 by decide)]
      show SimO S 0 _ (turnsG S bComma (callG S) (n + 1) (l ++ [v]) j)
      unfold turnsG
      by_cases ht : (tk S j).text = bComma
      · rw [if_pos (decide_eq_true ht), if_pos ht, if_pos ht]
        have hst := ha.step hS (ha.ne_end hS ht (by decide)) ()
        unfold adv at hst ⊢
        by_cases hl : j + 1 < S.toks.length
        · rw [if_pos hl] at hst ⊢
          exact calls_sim hS n (l ++ [v]) _ (j + 1) hst.2 (by omega)
        · rw [if_neg hl] at hst ⊢
          exact calls_bad (by omega) hst
      · rw [if_neg (by rw [decide_eq_false ht]; decide), if_neg ht, if_neg ht]
        exact ⟨_, rfl, rfl, ha⟩
    · have hi := (show Bad S (callR S r) e p from hc).is 4 bComma
      rw [if_neg (by rw [hi.2]; decide)]
      exact ⟨_, rfl, hi.1⟩
    · exact hc.elim
theorem BadO.then {α β : Type} {e : Int} {p : Nat} {o : Option (α × Rd)} {f : α × Rd → Option (β × Rd)} (h : BadO S e p o) (hf : ∀ x r, Bad S r e p → BadO S e p (f (x, r))) : BadO S e p (o.bind f) := by
  obtain ⟨⟨x, r⟩, rfl, hb⟩ := h
  exact hf x r hb
theorem SimO.then {α β : Type} {d d' : Nat} {o : Option (α × Rd)} {g : Got α} {f : α × Rd → Option (β × Rd)} {k : α → Nat → Got β} (h : SimO S d o g) (hok : ∀ x r j, At S r j d → g = .ok x j → SimO S d' (f (x, r)) (k x j)) (hbad : ∀ x r e p, Bad S r e p → BadO S e p (f (x, r))) : SimO S d' (o.bind f) (g.andThen k) := by
  obtain ⟨⟨x, r⟩, rfl, hs⟩ := h
  rcases g with ⟨v, j⟩ | ⟨e, p⟩ | _
  · obtain ⟨rfl, ha⟩ := hs
    exact hok _ r j ha rfl
  · exact hbad x r e p hs
  · exact hs.elim
theorem SimO.of {α : Type} {d : Nat} {x : α × Rd} {g : Got α} (h : Sim S d x g) : SimO S d (some x) g := ⟨x, rfl, h⟩
/-- What a rule asks for. -/
def whenS (S : Src) (n : Nat) (r : Rd) : Option (Ex × Rd) := if r.isB S 2 bWhen = true then exprN S n (r.isR S 2 bWhen) else some (.plain 1, r.isR S 2 bWhen)
/-- An expression that begins at any place. -/
theorem expr_at (hS : Lexd S) {n : Nat} (hn : S.toks.length < n) : (∀ r i, At S r i 0 → SimO S 0 (exprN S n r) (exprG S n 0 i)) ∧ (∀ r e p, Bad S r e p → BadO S e p (exprN S n r)) := by
  have h1 := one_simN hS n 0 (by decide)
  have h2 := expr_sim (d := 0) (by omega) hS h1.1 (h1.2 (by omega)) (fun i hi => fwd_one n 0 i hi)
  exact ⟨fun r i h => h2.1 r i h (by omega), h2.2⟩
theorem when_sim (hS : Lexd S) {n : Nat} (hn : S.toks.length < n) {r : Rd} {i : Nat} (h : At S r i 0) : SimO S 0 (whenS S n r) (whenG S n i) := by
  unfold whenS whenG
  rw [h.isB hS (show kindOf bWhen = 2 by decide), h.isR hS (show kindOf bWhen = 2 by decide)]
  by_cases ht : (tk S i).text = bWhen
  · rw [if_pos (decide_eq_true ht), if_pos ht, if_pos ht]
    have hst := h.step hS (h.ne_end hS ht (by decide)) ()
    unfold adv at hst ⊢
    by_cases hl : i + 1 < S.toks.length
    · rw [if_pos hl] at hst ⊢
      exact (expr_at hS hn).1 _ (i + 1) hst.2
    · rw [if_neg hl] at hst ⊢
      exact (expr_at hS hn).2 _ _ _ hst
  · rw [if_neg (by rw [decide_eq_false ht]; decide), if_neg ht, if_neg ht]
    exact ⟨_, rfl, rfl, h⟩
theorem when_bad (hS : Lexd S) {n : Nat} (hn : S.toks.length < n) {r : Rd} {e : Int} {p : Nat} (h : Bad S r e p) : BadO S e p (whenS S n r) := by
  have hi := h.is 2 bWhen
  unfold whenS
  rw [if_neg (by rw [hi.2]; decide)]
  exact ⟨_, rfl, hi.1⟩
/-- A rule behind its on. -/
def ruleS (S : Src) (n : Nat) (r : Rd) : Option (Ru × Rd) :=
  (callsS S n [] r).bind fun c => (whenS S n c.2).bind fun x => some (⟨c.1, x.1, verdT S (x.2.wantR S 2 bDo)⟩, (verdR S (x.2.wantR S 2 bDo)).wantR S 4 bSemi)
theorem tail_bad {r : Rd} {e : Int} {p : Nat} (h : Bad S r e p) : Bad S ((verdR S (r.wantR S 2 bDo)).wantR S 4 bSemi) e p := (verd_bad (h.want 2 bDo)).want 4 bSemi
theorem rule_bad (hS : Lexd S) {n : Nat} (hn : S.toks.length < n) {r : Rd} {e : Int} {p : Nat} (h : Bad S r e p) : BadO S e p (ruleS S n r) :=
  (calls_bad (by omega) h).then fun c q hq => (when_bad hS hn hq).then fun x q2 hq2 => ⟨_, rfl, tail_bad hq2⟩
/-- The grammar's rule, behind its on. -/
def restG (S : Src) (n j : Nat) : Got Ru := (byTurnsG S bComma (callG S) n j).andThen fun cs k => (whenG S n k).andThen fun e l =>
    (demandG S bDo l).andThen fun _ m => (verdG S m).andThen fun v o => (demandG S bSemi o).andThen fun _ p => .ok ⟨cs, e, v⟩ p
theorem rule_sim (hS : Lexd S) {n : Nat} (hn : S.toks.length < n) {r : Rd} {i : Nat} (h : At S r i 0) : SimO S 0 (ruleS S n r) (restG S n i) := by
  refine SimO.then (calls_sim hS n [] r i h (by omega)) (fun cs q k hk _ => ?_) (fun cs q e p hq => (when_bad hS hn hq).then fun x q2 hq2 => ⟨_, rfl, tail_bad hq2⟩)
  refine SimO.then (when_sim hS hn hk) (fun x q2 l hl _ => ?_) (fun x q2 e p hq2 => ⟨_, rfl, tail_bad hq2⟩)
  refine SimO.of ?_
  refine Sim.andThen (hl.want hS (show kindOf bDo = 2 by decide) (by decide)) (fun m hm _ => ?_) (fun e p hb => (verd_bad hb).want 4 bSemi)
  have hv := verd_sim hm hS
  refine Sim.andThen hv (fun o ho hg => ?_) (fun e p hb => hb.want 4 bSemi)
  exact Sim.andThen (ho.want hS (show kindOf bSemi = 4 by decide) (by decide)) (fun p2 hp2 _ => ⟨rfl, hp2⟩) (fun e p hb => hb)
end
end Go.Proofs.YtgeapkjegemkeaaDoor
namespace Go.Proofs.YtgeapkjegemkeaaDoor
open Go Go.RowKit
set_option linter.unusedSimpArgs false
set_option linter.unusedVariables false

/-- The rules, as the document reads them. -/
def rulesS (S : Src) (n : Nat) : Nat → List Ru → Rd → Option (List Ru × Rd)
  | 0, _, _ => none
  | m + 1, l, r =>
    if r.err ≠ 0 then some (l, r)
    else if (r.peekR S).isB S 2 bOn = true then
      if l.length = 512 then some (l, ((r.peekR S).isR S 2 bOn).fails 63 (r.peekT S).pos)
      else (ruleS S n ((r.peekR S).isR S 2 bOn)).bind fun x => rulesS S n m (l ++ [x.1]) x.2
    else some (l, (r.peekR S).isR S 2 bOn)
section
variable {S : Src}
/-- What stands when the text's end has been asked for. -/
def Shut {α : Type} (S : Src) (o : Option (α × Rd)) (g : Got α) : Prop := ∃ x, o = some x ∧ match g with
  | .ok v _ => x.1 = v ∧ (x.2.kindR S 1).err = 0
  | .bad e p => e ≠ 0 ∧ (x.2.kindR S 1).err = e ∧ (x.2.kindR S 1).bad = p
  | .out => False
theorem Bad.shut {α : Type} {r : Rd} {e : Int} {p : Nat} (h : Bad S r e p) (x : α) : Shut S (some (x, r)) (.bad e p : Got α) := ⟨_, rfl, h.ne, end_bad h⟩
theorem BadO.shut {α : Type} {o : Option (α × Rd)} {e : Int} {p : Nat} (h : BadO S e p o) : Shut S o (.bad e p : Got α) := by
  obtain ⟨⟨x, r⟩, rfl, hb⟩ := h
  exact hb.shut x
theorem fwd_when (n k : Nat) (hk : k < S.toks.length) : Fwd S 0 k (whenG S n k) := .ite (((fwd_adv k ()).andThen (m := 1) fun _ j hj => fwd_expr n 0 j hj).le (Nat.zero_le _)) (fwd_ok hk _)
theorem fwd_rest (n i : Nat) (hi : i < S.toks.length) : Fwd S 0 i (restG S n i) :=
  ((fwd_byTurns bComma (fun i _ => fwd_call i) n i hi).andThen (m := 0) fun cs k hk => (fwd_when n k hk).andThen (m := 0) fun e l hl =>
    ((fwd_demand bDo l).andThen (m := 0) fun _ m hm => ((fwd_verd m).andThen (m := 0) fun v o ho => ((fwd_demand bSemi o).andThen (m := 0) fun _ p hp => fwd_ok hp _).le (Nat.zero_le _)).le (Nat.zero_le _)).le (Nat.zero_le _)).le (Nat.zero_le _)
theorem rules_bad {n m : Nat} {l : List Ru} {r : Rd} {e : Int} {p : Nat} (hm : 0 < m) (h : Bad S r e p) : BadO S e p (rulesS S n m l r) := by
  obtain ⟨k, rfl⟩ := Nat.exists_eq_succ_of_ne_zero (by omega : m ≠ 0)
  unfold rulesS
  by_cases he : r.err ≠ 0
  · rw [if_pos he]; exact ⟨_, rfl, h⟩
  · have hi := h.peeked.is 2 bOn
    rw [if_neg he, if_neg (by rw [hi.2]; decide)]
    exact ⟨_, rfl, hi.1⟩
theorem rules_sim (hS : Lexd S) {n : Nat} (hn : S.toks.length < n) : ∀ m l r i, At S r i 0 → S.toks.length - i < m → Shut S (rulesS S n m l r) (rulesG S n m l i)
  | 0, l, r, i, h, hm => by omega
  | m + 1, l, r, i, h, hm => by
    have hlt := h.lt
    unfold rulesS rulesG
    rw [if_neg (fun g => g h.err), h.peekR, h.peekT, h.isB hS (show kindOf bOn = 2 by decide), h.isR hS (show kindOf bOn = 2 by decide)]
    by_cases ht : (tk S i).text = bOn
    · have hk := h.ne_end hS ht (by decide)
      rw [if_pos (decide_eq_true ht), if_pos ht, if_neg hk]
      by_cases hl : l.length = 512
      · rw [if_pos hl, if_pos ⟨hl, ht⟩]
        exact (Bad.set (r := r.step) h.err (by decide) _).shut l
      · rw [if_neg hl, if_neg (fun g => hl g.1)]
        have hst := h.step hS hk ()
        unfold ruleG demandG
        rw [if_pos ht]
        unfold adv at hst ⊢
        by_cases hj : i + 1 < S.toks.length
        · rw [if_pos hj] at hst ⊢
          show Shut S _ ((restG S n (i + 1)).andThen fun x j => rulesG S n m (l ++ [x]) j)
          obtain ⟨⟨x, q⟩, hx, hs⟩ := rule_sim hS hn hst.2
          rw [hx]
          have hf : Fwd S 0 (i + 1) (restG S n (i + 1)) := fwd_rest n (i + 1) hst.2.lt
          generalize restG S n (i + 1) = g at hs hf ⊢
          rcases g with ⟨v, j⟩ | ⟨e, p⟩ | _
          · obtain ⟨h1, ha⟩ := hs
            simp only at h1 ha
            subst h1
            have := (hf x j rfl).1
            exact rules_sim hS hn m (l ++ [x]) q j ha (by omega)
          · exact (rules_bad (by omega) (show Bad S q e p from hs)).shut
          · exact hs.elim
        · rw [if_neg hj] at hst ⊢
          exact ((rule_bad hS hn hst).then (fun x q hq => rules_bad (by omega) hq)).shut
    · rw [if_neg (by rw [decide_eq_false ht]; decide), if_neg ht]
      by_cases hk : (tk S i).kind = 1
      · rw [if_pos hk]
        exact ⟨_, rfl, rfl, end_at h hk⟩
      · rw [if_neg hk, if_neg (fun g => ht g.2)]
        unfold ruleG demandG
        rw [if_neg ht]
        exact ⟨_, rfl, (by decide : (61 : Int) ≠ 0), end_no h hk⟩
theorem Sim.shut {α β : Type} {d : Nat} {x : α × Rd} {g : Got α} {f : α → Nat → Got β} {o : Option (β × Rd)} (h : Sim S d x g) (hok : ∀ j, At S x.2 j d → Shut S o (f x.1 j)) (hbad : ∀ e p, Bad S x.2 e p → BadO S e p o) : Shut S o (g.andThen f) := by
  rcases g with ⟨v, j⟩ | ⟨e, p⟩ | _
  · obtain ⟨h1, h2⟩ := h; subst h1; exact hok j h2
  · exact (hbad e p h).shut
  · exact h.elim
theorem Shut.map {α β : Type} {o : Option (α × Rd)} {g : Got α} (h : Shut S o g) (f : α → β) : Shut S (o.bind fun x => some (f x.1, x.2)) (g.andThen fun x j => .ok (f x) j) := by
  obtain ⟨⟨x, r⟩, rfl, hs⟩ := h
  rcases g with ⟨v, j⟩ | ⟨e, p⟩ | _
  · exact ⟨_, rfl, congrArg f hs.1, hs.2⟩
  · exact ⟨_, rfl, hs⟩
  · exact hs.elim
/-- A policy's head, step by step. -/
abbrev q1 (S : Src) (r : Rd) : Rd := r.wantR S 2 bArch
abbrev q2 (S : Src) (r : Rd) : Rd := (q1 S r).kindR S 2
abbrev q3 (S : Src) (r : Rd) : Rd := (q2 S r).wantR S 4 bSemi
abbrev q4 (S : Src) (r : Rd) : Rd := (q3 S r).wantR S 2 bForeign
abbrev q5 (S : Src) (r : Rd) : Rd := verdR S (q4 S r)
abbrev q6 (S : Src) (r : Rd) : Rd := (q5 S r).wantR S 4 bSemi
abbrev q7 (S : Src) (r : Rd) : Rd := (q6 S r).wantR S 2 bDefault
abbrev q8 (S : Src) (r : Rd) : Rd := verdR S (q7 S r)
abbrev q9 (S : Src) (r : Rd) : Rd := (q8 S r).wantR S 4 bSemi
/-- A policy. -/
def parseS (S : Src) (n : Nat) (r : Rd) : Option (Po × Rd) :=
  (rulesS S n n [] (q9 S r)).bind fun x => some (⟨((q1 S r).kindT S 2).text, verdT S (q4 S r), verdT S (q7 S r), x.1⟩, x.2)
theorem parse_bad {n : Nat} {r : Rd} {e : Int} {p : Nat} (hn : 0 < n) (h : Bad S (q9 S r) e p) : BadO S e p (parseS S n r) :=
  (rules_bad hn h).then fun x q hq => ⟨_, rfl, hq⟩
theorem parse_sim (hS : Lexd S) {n : Nat} (hn : S.toks.length < n) {r : Rd} {i : Nat} (h : At S r i 0) : Shut S (parseS S n r) (policyG S n i) := by
  have b9 : ∀ {e p}, Bad S (q8 S r) e p → BadO S e p (parseS S n r) := fun h => parse_bad (by omega) (h.want 4 bSemi)
  have b8 : ∀ {e p}, Bad S (q7 S r) e p → BadO S e p (parseS S n r) := fun h => b9 (verd_bad h)
  have b7 : ∀ {e p}, Bad S (q6 S r) e p → BadO S e p (parseS S n r) := fun h => b8 (h.want 2 bDefault)
  have b6 : ∀ {e p}, Bad S (q5 S r) e p → BadO S e p (parseS S n r) := fun h => b7 (h.want 4 bSemi)
  have b5 : ∀ {e p}, Bad S (q4 S r) e p → BadO S e p (parseS S n r) := fun h => b6 (verd_bad h)
  have b4 : ∀ {e p}, Bad S (q3 S r) e p → BadO S e p (parseS S n r) := fun h => b5 (h.want 2 bForeign)
  have b3 : ∀ {e p}, Bad S (q2 S r) e p → BadO S e p (parseS S n r) := fun h => b4 (h.want 4 bSemi)
  have b2 : ∀ {e p}, Bad S (q1 S r) e p → BadO S e p (parseS S n r) := fun h => b3 (h.kind 2).1
  unfold policyG
  refine Sim.shut (h.want hS (show kindOf bArch = 2 by decide) (by decide)) (fun a ha => ?_) (fun e p hb => b2 hb)
  refine Sim.shut (name_sim ha hS) (fun b hb => ?_) (fun e p hb => b3 hb)
  refine Sim.shut (hb.want hS (show kindOf bSemi = 4 by decide) (by decide)) (fun c hc => ?_) (fun e p hb => b4 hb)
  refine Sim.shut (hc.want hS (show kindOf bForeign = 2 by decide) (by decide)) (fun d hd => ?_) (fun e p hb => b5 hb)
  refine Sim.shut (verd_sim hd hS) (fun e he => ?_) (fun e p hb => b6 hb)
  refine Sim.shut (he.want hS (show kindOf bSemi = 4 by decide) (by decide)) (fun g hg => ?_) (fun e p hb => b7 hb)
  refine Sim.shut (hg.want hS (show kindOf bDefault = 2 by decide) (by decide)) (fun j hj => ?_) (fun e p hb => b8 hb)
  refine Sim.shut (verd_sim hj hS) (fun k hk => ?_) (fun e p hb => b9 hb)
  refine Sim.shut (hk.want hS (show kindOf bSemi = 4 by decide) (by decide)) (fun l hl => ?_) (fun e p hb => parse_bad (by omega) hb)
  exact (rules_sim hS hn n [] _ l hl (by omega)).map (fun x => Po.mk _ _ _ x)
/-- How far the document's reader goes. -/
theorem goes_calls : ∀ n l r x, J S r → callsS S n l r = some x → Goes S r x.2
  | 0, l, r, x, hj, h => by cases h
  | n + 1, l, r, x, hj, h => by
    have g1 := goes_call hj
    have g2 := goes_is g1.j 4 (by decide) bComma
    unfold callsS at h
    split at h
    · exact (g1.trans g2).trans (goes_calls n _ _ x g2.j h)
    · cases h; exact g1.trans g2
theorem goes_when {n : Nat} {r : Rd} {x : Ex × Rd} (hj : J S r) (h : whenS S n r = some x) : Goes S r x.2 := by
  have g1 := goes_is hj 2 (by decide) bWhen
  unfold whenS at h
  split at h
  · exact g1.trans (goes_exprN n _ x g1.j h)
  · cases h; exact g1
theorem goes_rule {n : Nat} {r : Rd} {x : Ru × Rd} (hj : J S r) (h : ruleS S n r = some x) : Goes S r x.2 := by
  unfold ruleS at h
  cases hc : callsS S n [] r with
  | none => rw [hc] at h; cases h
  | some c =>
    rw [hc] at h
    have g1 := goes_calls n [] r c hj hc
    cases hw : whenS S n c.2 with
    | none => simp only [Option.bind_some, hw] at h; cases h
    | some y =>
      simp only [Option.bind_some, hw] at h
      cases h
      have g2 := goes_when g1.j hw
      have g3 := goes_want g2.j 2 (by decide) bDo
      have g4 := goes_verd g3.j
      exact g1.trans (g2.trans (g3.trans (g4.trans (goes_want g4.j 4 (by decide) bSemi))))
theorem goes_rules {n : Nat} : ∀ m l r x, J S r → rulesS S n m l r = some x → Goes S r x.2
  | 0, l, r, x, hj, h => by cases h
  | m + 1, l, r, x, hj, h => by
    have g0 := goes_peek hj
    have g1 := goes_is g0.j 2 (by decide) bOn
    unfold rulesS at h
    split at h
    · cases h; exact .refl hj
    · split at h
      · split at h
        · cases h; exact g0.trans (g1.trans (goes_fails g1.j 63 (by decide) _))
        · cases hr : ruleS S n ((r.peekR S).isR S 2 bOn) with
          | none => rw [hr] at h; cases h
          | some y =>
            rw [hr] at h
            have g2 := goes_rule g1.j hr
            exact g0.trans (g1.trans (g2.trans (goes_rules m _ _ x g2.j h)))
      · cases h; exact g0.trans g1
theorem goes_head {r : Rd} (hj : J S r) : Goes S r (q1 S r) ∧ Goes S r (q2 S r) ∧ Goes S r (q3 S r) ∧ Goes S r (q4 S r) ∧ Goes S r (q5 S r) ∧ Goes S r (q6 S r) ∧ Goes S r (q7 S r) ∧ Goes S r (q8 S r) ∧ Goes S r (q9 S r) := by
  have g1 : Goes S r (q1 S r) := goes_want hj 2 (by decide) bArch
  have g2 : Goes S r (q2 S r) := g1.trans (goes_kind g1.j 2 (by decide))
  have g3 : Goes S r (q3 S r) := g2.trans (goes_want g2.j 4 (by decide) bSemi)
  have g4 : Goes S r (q4 S r) := g3.trans (goes_want g3.j 2 (by decide) bForeign)
  have g5 : Goes S r (q5 S r) := g4.trans (goes_verd g4.j)
  have g6 : Goes S r (q6 S r) := g5.trans (goes_want g5.j 4 (by decide) bSemi)
  have g7 : Goes S r (q7 S r) := g6.trans (goes_want g6.j 2 (by decide) bDefault)
  have g8 : Goes S r (q8 S r) := g7.trans (goes_verd g7.j)
  exact ⟨g1, g2, g3, g4, g5, g6, g7, g8, g8.trans (goes_want g8.j 4 (by decide) bSemi)⟩
end
end Go.Proofs.YtgeapkjegemkeaaDoor
