/-
  What the examples of layer 6 are read as, and a policy of 513 rules: plain facts. No condition.
-/
import Derived.Test.YtgeapkjegemkeaaGreatDoorZGr
import Derived.Lib.RepeatB
namespace Go.Proofs.YtgeapkjegemkeaaGreatDoor
set_option linter.unusedSimpArgs false
set_option linter.unusedVariables false

/-- The policy of the chapter, and what it is read as. -/
abbrev someT : ByteArray := ⟨#[97, 114, 99, 104, 32, 120, 56, 54, 95, 54, 52, 59, 10, 102, 111, 114, 101, 105, 103, 110, 32, 107, 105, 108, 108, 95, 112, 114, 111, 99, 101, 115, 115, 59, 10, 100, 101, 102, 97, 117, 108, 116, 32, 101, 114, 114, 110, 111, 32, 49, 59, 10, 111, 110, 32, 114, 101, 97, 100, 44, 32, 119, 114, 105, 116, 101, 44, 32, 50, 51, 49, 32, 100, 111, 32, 97, 108, 108, 111, 119, 59, 10, 111, 110, 32, 111, 112, 101, 110, 97, 116, 32, 119, 104, 101, 110, 32, 97, 114, 103, 50, 32, 38, 32, 48, 120, 51, 32, 61, 61, 32, 48, 32, 97, 110, 100, 32, 110, 111, 116, 32, 40, 97, 114, 103, 49, 32, 62, 32, 53, 32, 111, 114, 32, 105, 112, 32, 60, 32, 52, 48, 57, 54, 41, 32, 100, 111, 32, 108, 111, 103, 59, 10]⟩
def exA : Ex := .node 4 [.mk 6 [] 2 3 1 0, .node 3 [.node 5 [.mk 6 [] 1 18446744073709551615 5 5, .mk 6 [] 6 18446744073709551615 3 4096]]]
def someP : Po := ⟨⟨#[120, 56, 54, 95, 54, 52]⟩, (1, 0), (4, 1), [⟨[(⟨#[114, 101, 97, 100]⟩, 0), (⟨#[119, 114, 105, 116, 101]⟩, 0), (⟨#[]⟩, 231)], .plain 1, (8, 0)⟩, ⟨[(⟨#[111, 112, 101, 110, 97, 116]⟩, 0)], exA, (7, 0)⟩]⟩
theorem some_read : resPo (policyF someT) = (someP, 0, 0) := by kernel_rfl
theorem some_said : stL (polL someP) = someT := by kernel_rfl
theorem some_two : someP.rules.length = 2 := rfl
abbrev nipT : ByteArray := ⟨#[40, 40, 110, 111, 116, 32, 40, 40, 105, 112, 32, 62, 32, 49, 41, 41, 41, 41]⟩
def nipE : Ex := .node 3 [.mk 6 [] 6 18446744073709551615 5 1]
abbrev nipS : ByteArray := ⟨#[110, 111, 116, 32, 105, 112, 32, 62, 32, 49]⟩
theorem nip_read : resEx (exprF nipT) = (nipE, 0, 0) := by kernel_rfl
theorem nip_said : stL (exL nipE) = nipS := by kernel_rfl
theorem nip_deep : deepN nipE = 1 := by decide
abbrev archT : ByteArray := ⟨#[97, 114, 99, 104, 32, 120, 59]⟩
theorem arch_read : resPo (policyF archT) = (zeroPo, 61, 7) := by kernel_rfl
abbrev deepT : ByteArray := ⟨#[40, 40, 40, 40, 40, 40, 40, 40, 40, 40, 40, 40, 40, 40, 40, 40, 40, 40, 40, 40, 40, 40, 40, 40, 40, 40, 40, 40, 40, 40, 40, 40, 40, 40, 40, 40, 40, 40, 40, 40, 40, 40, 40, 40, 40, 40, 40, 40, 40, 40, 40, 40, 40, 40, 40, 40, 40, 40, 40, 40, 40, 40, 40, 40, 40]⟩
theorem deep_read : resEx (exprF deepT) = (.zero, 62, 64) := by kernel_rfl
abbrev trueT : ByteArray := ⟨#[40, 40, 40, 40, 40, 40, 40, 40, 40, 40, 40, 40, 40, 40, 40, 40, 40, 40, 40, 40, 40, 40, 40, 40, 40, 40, 40, 40, 40, 40, 40, 40, 40, 40, 40, 40, 40, 40, 40, 40, 40, 40, 40, 40, 40, 40, 40, 40, 40, 40, 40, 40, 40, 40, 40, 40, 40, 40, 40, 40, 40, 40, 40, 40, 116, 114, 117, 101, 41, 41, 41, 41, 41, 41, 41, 41, 41, 41, 41, 41, 41, 41, 41, 41, 41, 41, 41, 41, 41, 41, 41, 41, 41, 41, 41, 41, 41, 41, 41, 41, 41, 41, 41, 41, 41, 41, 41, 41, 41, 41, 41, 41, 41, 41, 41, 41, 41, 41, 41, 41, 41, 41, 41, 41, 41, 41, 41, 41, 41, 41, 41, 41]⟩
theorem true_read : resEx (exprF trueT) = (.plain 1, 0, 0) := by kernel_rfl
end Go.Proofs.YtgeapkjegemkeaaGreatDoor
namespace Go.Proofs.YtgeapkjegemkeaaGreatDoor
set_option linter.unusedSimpArgs false
set_option linter.unusedVariables false

def logR : Ru := ⟨[(⟨#[97]⟩, 0)], .plain 1, (7, 0)⟩
abbrev logL : List UInt8 := [111, 110, 32, 97, 32, 100, 111, 32, 108, 111, 103, 59]
abbrev headT : List UInt8 := [97, 114, 99, 104, 32, 120, 59, 32, 102, 111, 114, 101, 105, 103, 110, 32, 108, 111, 103, 59, 32, 100, 101, 102, 97, 117, 108, 116, 32, 108, 111, 103, 59]
def No61 (L : List UInt8) : Prop := ∀ c r, L = c :: r → c.toNat ≠ 61
theorem name_a : NameB ⟨#[97]⟩ := by show worOK _ _ = true; kernel_rfl
theorem gcall_a : GCall (⟨#[97]⟩, 0) := .inr ⟨name_a, rfl⟩
theorem glog : GRu logR := ⟨⟨by decide, by decide, fun c hc => by
  rw [show logR.calls = [(⟨#[97]⟩, 0)] from rfl, List.mem_singleton] at hc; subst hc; exact gcall_a⟩, .yes, ⟨by decide, by decide, fun _ => rfl⟩⟩
theorem tk_log : tkR logR = [worX [111, 110], ⟨2, ⟨#[97]⟩, 0, 0, 0, 0⟩, worX [100, 111], worX [108, 111, 103], sigX [59]] := by
  have h1 : tkCl9 (⟨#[97]⟩, 0) = ⟨2, ⟨#[97]⟩, 0, 0, 0, 0⟩ := if_neg (by decide)
  have h2 : tkW logR.when_ = [] := if_pos rfl
  have h3 : tkV9 logR.do_ = [worX [108, 111, 103]] := by unfold tkV9; rfl
  unfold tkR
  rw [h2, h3, show logR.calls = [(⟨#[97]⟩, 0)] from rfl, tkF, tkCs, h1]
  rfl
theorem lex_log {L : List UInt8} {T : List Nx} (hL : No61 L) (h : LexS L T) : LexS (logL ++ L) (tkR logR ++ T) := by
  have h1 : LexS ([59] ++ L) (sigX [59] :: T) := lex_sig (w := [59]) sig59 hL h
  have h2 := lex_word (w := [108, 111, 103]) (by kernel_rfl) (ok_semi L) h1
  have h3 := lex_word (w := [100, 111]) (by kernel_rfl) (ok_blank _) (.blank (c := 32) rfl h2)
  have h4 := lex_name (s := ⟨#[97]⟩) name_a (ok_blank _) (.blank (c := 32) rfl h3)
  have h5 := lex_word (w := [111, 110]) (by kernel_rfl) (ok_blank _) (.blank (c := 32) rfl h4)
  rw [tk_log]
  exact h5
theorem no61_rep (n : Nat) : No61 (Lib.repeatL logL n) := by
  intro c r e
  cases n with
  | zero => rw [Lib.repeatL] at e; cases e
  | succ n => rw [Lib.repeatL] at e; injection e with e1 _; rw [← e1]; decide
def logs : Nat → List Nx
  | 0 => []
  | n + 1 => tkR logR ++ logs n
theorem lex_logs : ∀ n, LexS (Lib.repeatL logL n) (logs n)
  | 0 => .nil
  | n + 1 => by rw [Lib.repeatL, logs]; exact lex_log (no61_rep n) (lex_logs n)
def headK : List Nx := [worX [97, 114, 99, 104], ⟨2, ⟨#[120]⟩, 0, 0, 0, 0⟩, sigX [59], worX [102, 111, 114, 101, 105, 103, 110], worX [108, 111, 103], sigX [59], worX [100, 101, 102, 97, 117, 108, 116], worX [108, 111, 103], sigX [59]]
theorem name_x : NameB ⟨#[120]⟩ := by show worOK _ _ = true; kernel_rfl
theorem lex_head {L : List UInt8} {T : List Nx} (hL : No61 L) (h : LexS L T) : LexS (headT ++ L) (headK ++ T) := by
  have b61 : ∀ L : List UInt8, No61 (32 :: L) := fun L c r e => by injection e with e1 _; rw [← e1]; decide
  have h1 : LexS ([59] ++ L) (sigX [59] :: T) := lex_sig (w := [59]) sig59 hL h
  have h2 := lex_word (w := [108, 111, 103]) (by kernel_rfl) (ok_semi L) h1
  have h3 := lex_word (w := [100, 101, 102, 97, 117, 108, 116]) (by kernel_rfl) (ok_blank _) (.blank (c := 32) rfl h2)
  have h4 := lex_sig (w := [59]) sig59 (b61 _) (.blank (c := 32) rfl h3)
  have h5 := lex_word (w := [108, 111, 103]) (by kernel_rfl) (ok_semi _) h4
  have h6 := lex_word (w := [102, 111, 114, 101, 105, 103, 110]) (by kernel_rfl) (ok_blank _) (.blank (c := 32) rfl h5)
  have h7 := lex_sig (w := [59]) sig59 (b61 _) (.blank (c := 32) rfl h6)
  have h8 := lex_name (s := ⟨#[120]⟩) name_x (ok_semi _) h7
  have h9 := lex_word (w := [97, 114, 99, 104]) (by kernel_rfl) (ok_blank _) (.blank (c := 32) rfl h8)
  exact h9
section
variable {S : Src}
theorem logs_len : ∀ n, (logs n).length = 5 * n
  | 0 => rfl
  | n + 1 => by rw [logs, List.length_append, logs_len n, tk_log]; simp; omega
theorem rules_many {n : Nat} (hn : 5 ≤ n) : ∀ (k : Nat) (acc : List Ru) (i m : Nat) (R : List Nx), acc.length + k = 512 → AtS S i (logs (k + 1) ++ R) → R ≠ [] → k + 1 < m → ∃ p, rulesG S n m acc i = .bad 63 p
  | 0, acc, i, m + 1, R, ha, h, hR, hm => by
    rw [logs, tk_log] at h
    have h0 : AtS S i (worX [111, 110] :: ([⟨2, ⟨#[97]⟩, 0, 0, 0, 0⟩, worX [100, 111], worX [108, 111, 103], sigX [59]] ++ (logs 0 ++ R))) := h
    unfold rulesG
    rw [if_neg (by rw [show (tk S i).kind = 2 from h0.head.1]; decide), if_pos ⟨by omega, h0.head.2.1⟩]
    exact ⟨_, rfl⟩
  | k + 1, acc, i, m + 1, R, ha, h, hR, hm => by
    have hl := tk_log
    rw [logs, List.append_assoc] at h
    have h0 : AtS S i (worX [111, 110] :: ([⟨2, ⟨#[97]⟩, 0, 0, 0, 0⟩, worX [100, 111], worX [108, 111, 103], sigX [59]] ++ (logs (k + 1) ++ R))) := by have := h; rw [tk_log] at this; exact this
    unfold rulesG
    rw [if_neg (by rw [show (tk S i).kind = 2 from h0.head.1]; decide), if_neg (by rintro ⟨g, _⟩; omega)]
    have e1 : logs (k + 1) ++ R = worX [111, 110] :: ([⟨2, ⟨#[97]⟩, 0, 0, 0, 0⟩, worX [100, 111], worX [108, 111, 103], sigX [59]] ++ (logs k ++ R)) := by rw [logs, tk_log]; rfl
    have hr1 : ruleG S n i = .ok logR (i + (tkR logR).length) := by
      have h9 := h
      rw [e1] at h9
      exact rule_to glog (by show deepN (.mk 1 [] 0 0 0 0) ≤ 64; rw [deepN, deepsN]; omega) h9 (by rw [tk_log]; exact hn)
    rw [hr1]
    show ∃ p, rulesG S n m (acc ++ [logR]) _ = _
    exact rules_many hn k (acc ++ [logR]) _ m R (by simp only [List.length_append, List.length_cons, List.length_nil]; omega) h.drop hR (by omega)
theorem policy_many {n : Nat} {R : List Nx} (h : AtS S 0 (headK ++ (logs 513 ++ R))) (hR : R ≠ []) (hn : 514 ≤ n) : ∃ p, policyG S n 0 = .bad 63 p := by
  have hne : logs 513 ++ R ≠ [] := by intro e; exact hR (List.append_eq_nil_iff.1 e).2
  have gv : GVd (7, 0) := ⟨by decide, by decide, fun _ => rfl⟩
  have ev : tkV9 (7, 0) = [worX [108, 111, 103]] := by unfold tkV9; rfl
  have h0 : AtS S 0 (worX [97, 114, 99, 104] :: ⟨2, ⟨#[120]⟩, 0, 0, 0, 0⟩ :: sigX [59] :: worX [102, 111, 114, 101, 105, 103, 110] :: (tkV9 (7, 0) ++ (sigX [59] :: worX [100, 101, 102, 97, 117, 108, 116] :: (tkV9 (7, 0) ++ (sigX [59] :: (logs 513 ++ R)))))) := by
    rw [ev]; exact h
  unfold policyG
  rw [demand_to (t := bArch) h0 (by simp) rfl]
  show ∃ j, ((nameG S (0 + 1)).andThen _) = .bad 63 j
  rw [name_to h0.tail (by simp)]
  show ∃ j, ((demandG S bSemi (0 + 1 + 1)).andThen _) = .bad 63 j
  have h2 := h0.tail.tail
  rw [demand_to (t := bSemi) h2 (by simp) rfl]
  show ∃ j, ((demandG S bForeign (0 + 1 + 1 + 1)).andThen _) = .bad 63 j
  have h3 := h2.tail
  rw [demand_to (t := bForeign) h3 (by rw [ev]; simp) rfl]
  show ∃ j, ((verdG S (0 + 1 + 1 + 1 + 1)).andThen _) = .bad 63 j
  have h4 := h3.tail
  rw [verd_to gv h4]
  show ∃ j, ((demandG S bSemi _).andThen _) = .bad 63 j
  have h5 := h4.drop
  rw [demand_to (t := bSemi) h5 (by simp) rfl]
  show ∃ j, ((demandG S bDefault _).andThen _) = .bad 63 j
  have h6 := h5.tail
  rw [demand_to (t := bDefault) h6 (by rw [ev]; simp) rfl]
  show ∃ j, ((verdG S _).andThen _) = .bad 63 j
  have h7 := h6.tail
  rw [verd_to gv h7]
  show ∃ j, ((demandG S bSemi _).andThen _) = .bad 63 j
  have h8 := h7.drop
  rw [demand_to (t := bSemi) h8 hne rfl]
  show ∃ j, ((rulesG S n n [] _).andThen _) = .bad 63 j
  obtain ⟨p, hp⟩ := rules_many (S := S) (n := n) (by omega) 512 [] _ n R rfl h8.tail hR (by omega)
  rw [hp]
  exact ⟨p, rfl⟩
end
/-- The text of 513 rules. -/
def manyT : ByteArray := ⟨(headT ++ Lib.repeatL logL 513).toArray⟩
theorem many_read : ∃ p, resPo (policyF manyT) = (zeroPo, 63, p) := by
  have hl : LexS (headT ++ Lib.repeatL logL 513) (headK ++ logs 513) := lex_head (no61_rep 513) (lex_logs 513)
  have hlen : (headT ++ Lib.repeatL logL 513).length ≤ 65536 := by rw [List.length_append, Lib.repeatL_length]; decide
  obtain ⟨ha, hn'⟩ := at_all (lexS_src hl hlen).2
  have hk : (headK ++ logs 513).length = 9 + 2565 := by rw [List.length_append, logs_len]; rfl
  have hn : (srcF manyT).toks.length = 2575 := by rw [← show (headK ++ logs 513).length + 1 = 2575 by rw [hk]]; exact hn'
  rw [List.append_assoc] at ha
  obtain ⟨p, hp⟩ := policy_many (S := srcF manyT) (n := (srcF manyT).toks.length + 1) (R := [endX]) ha (by simp) (by omega)
  refine ⟨p, ?_⟩
  unfold policyF readG
  rw [if_pos (by omega), hp]; rfl
end Go.Proofs.YtgeapkjegemkeaaGreatDoor
