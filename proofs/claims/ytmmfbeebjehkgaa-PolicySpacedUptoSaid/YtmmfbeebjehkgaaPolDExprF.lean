/-
  The document's ParseExpr tells what the grammar tells. Conditions: the text's length.
-/
import Derived.Test.YtmmfbeebjehkgaaPolDParse
namespace Go.Proofs.Ytmmfbeebjehkgaa
open Go Go.RowKit
set_option linter.unusedSimpArgs false
set_option linter.unusedVariables false

section
variable {S : Src}
theorem end_at {r : Rd} {i d : Nat} (h : At S r i d) (hk : (tk S i).kind = 1) : (r.kindR S 1).err = 0 := by
  unfold Rd.kindR
  rw [h.peekT, if_pos hk, h.peekR, h.nextR]
  exact h.err
theorem end_no {r : Rd} {i d : Nat} (h : At S r i d) (hk : (tk S i).kind ≠ 1) : (r.kindR S 1).err = 61 ∧ (r.kindR S 1).bad = (tk S i).pos := by
  unfold Rd.kindR
  rw [h.peekT, if_neg hk, h.peekR]
  unfold Rd.fails
  rw [if_pos h.err]
  exact ⟨rfl, rfl⟩
theorem end_bad {r : Rd} {e : Int} {p : Nat} (h : Bad S r e p) : (r.kindR S 1).err = e ∧ (r.kindR S 1).bad = p := by
  unfold Rd.kindR
  rw [h.noT_of, if_neg (show ¬ noT.kind = 1 by decide)]
  rw [Rd.fails_err _ _ _ h.stuck]
  exact ⟨h.err, h.bad⟩
theorem start_sim (hS : Lexd S) : (0 < S.toks.length → At S ⟨0, 0, 0, 0⟩ 0 0) ∧ (¬ 0 < S.toks.length → Bad S ⟨0, 0, 0, 0⟩ S.err S.place) := by
  refine ⟨fun h => ⟨rfl, rfl, rfl, h⟩, fun h => ?_⟩
  have e : (⟨0, 0, 0, 0⟩ : Rd).peekR S = { (⟨0, 0, 0, 0⟩ : Rd) with err := S.err, bad := S.place } := if_pos ⟨rfl, h⟩
  exact ⟨hS.start.resolve_left h, by rw [e], by rw [e]⟩
/-- An expression, as the document reads it, and as the grammar does. -/
theorem exprN_sim (hS : Lexd S) {n : Nat} (hn : S.toks.length < n) :
    (0 < S.toks.length → SimO S 0 (exprN S n ⟨0, 0, 0, 0⟩) (exprG S n 0 0)) ∧ (¬ 0 < S.toks.length → BadO S S.err S.place (exprN S n ⟨0, 0, 0, 0⟩)) := by
  have h1 := one_simN hS n 0 (by decide)
  have h2 := expr_sim (d := 0) (by omega) hS h1.1 (h1.2 (by omega)) (fun i hi => fwd_one n 0 i hi)
  exact ⟨fun h => h2.1 _ 0 ((start_sim hS).1 h) (by omega), fun h => h2.2 _ _ _ ((start_sim hS).2 h)⟩
end
theorem rd6_ParseExpr (s : ByteArray) (w : World) (hm : s.size ≤ maxLen) : Calls Try.prog 9 #[.string s] w (ParseP (ExP w.heap.size) (leafVal 0 0 0 0 0) w (exprF s)) := by
  have hS := lexd s
  have hsm := src_small s
  have hE := exprN_sim hS (Nat.lt_succ_self (srcF s).toks.length)
  have hat : ∀ x r1, exprN (srcF s) ((srcF s).toks.length + 1) ⟨0, 0, 0, 0⟩ = some (x, r1) → r1.at_ ≤ 1000000 := fun x r1 h => by
    have := (goes_exprN (S := srcF s) _ _ _ ⟨Nat.zero_le _, fun _ => Nat.zero_le _⟩ h).j.le
    simp only at this
    omega
  unfold exprF readG
  by_cases h0 : 0 < (srcF s).toks.length
  · rw [if_pos h0]
    obtain ⟨⟨x, r1⟩, hx, hsim⟩ := hE.1 h0
    unfold wholeG
    generalize exprG (srcF s) ((srcF s).toks.length + 1) 0 0 = g at hsim ⊢
    rcases g with ⟨v, j⟩ | ⟨e, p⟩ | _
    · obtain ⟨rfl, ha⟩ := hsim
      show Calls _ _ _ _ (ParseP _ _ w (if (tk (srcF s) j).kind = 1 then .ok x j else noG (srcF s) j))
      by_cases hk : (tk (srcF s) j).kind = 1
      · rw [if_pos hk]
        exact rd6_ParseExpr_ok s w hm _ x r1 hx (hat _ _ hx) (end_at ha hk) j
      · rw [if_neg hk]
        have h1 := end_no ha hk
        have h2 := rd6_ParseExpr_bad s w hm _ x r1 hx (hat _ _ hx) (by rw [h1.1]; decide)
        rw [h1.1, h1.2] at h2
        exact h2
    · have h1 := end_bad (show Bad (srcF s) r1 e p from hsim)
      have h2 := rd6_ParseExpr_bad s w hm _ x r1 hx (hat _ _ hx) (by rw [h1.1]; exact Bad.ne hsim)
      rw [h1.1, h1.2] at h2
      exact h2
    · exact hsim.elim
  · rw [if_neg h0]
    obtain ⟨⟨x, r1⟩, hx, hb⟩ := hE.2 h0
    have h1 := end_bad hb
    have h2 := rd6_ParseExpr_bad s w hm _ x r1 hx (hat _ _ hx) (by rw [h1.1]; exact hb.ne)
    rw [h1.1, h1.2] at h2
    exact h2
end Go.Proofs.Ytmmfbeebjehkgaa
