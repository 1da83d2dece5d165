/-
  The document's reader of a text: a contract. Conditions: those that it names.
-/
import Derived.Test.YtmmfbeebjehkgaaPolDAll
import Derived.Test.YtmmfbeebjehkgaaPolPure
import Derived.Test.YtmmfbeebjehkgaaLexToks
namespace Go.Proofs.Ytmmfbeebjehkgaa
open Go Go.RowKit
set_option linter.unusedSimpArgs false
set_option linter.unusedVariables false

theorem own_tok6 {w : World} {base : Nat} {v : Value} {l : List Nx} (h : w.ownsRow base 49 4 v l.length (tksC l)) : ∃ A cap, v = .slice A l.length cap ∧ TokAt w A l.length (fun i => l.getD i noT) ∧ (0 < l.length → ∃ b o, A = some ⟨b, o, none⟩ ∧ b < w.heap.size) := by
  obtain ⟨A, cap, rfl, ht⟩ := own_tok h
  refine ⟨A, cap, rfl, ht, fun hn => ?_⟩
  obtain ⟨b, o, e, hl, _⟩ := ht hn
  exact ⟨b, o, e, hl⟩
/-- What reader leaves: a reader at the text's start. -/
def ReaderP (s : ByteArray) (w : World) (e : Ending) (w' : World) : Prop :=
  ∃ b A cap, e = .returned (.pointer (some ⟨b, 0, none⟩)) ∧ RdAt w' b A cap (srcF s) ⟨0, 0, 0, 0⟩ ∧ Below w.heap.size w w' ∧ w.heap.size ≤ b
set_option maxHeartbeats 2000000 in
set_option maxRecDepth 100000 in
theorem rd6_reader (s : ByteArray) (w : World) (hm : s.size ≤ maxLen) (hs : (srcF s).toks.length ≤ 65537) : Calls Try.prog 15 #[.string s] w (ReaderP s w) := by
  have HT := Lib.hid (ref_Tokens (s := s) (w := w) hm)
  have HS := Lib.hid hs
  clear hs
  go_enter Try.func15, Try.ntmps15
  go_wp2_with (first | (go_at_call 26; (with_reducible refine HT.out.mono ?_); rintro e w1 ⟨v, rfl, ho, hb⟩; obtain ⟨A, cap, rfl, ht, hl⟩ := own_tok6 ho; have H1 := Lib.hid (And.intro ht (And.intro hl hb)); clear ho hb ht hl))
  obtain ⟨ht, hl, hb⟩ := H1.out
  exact bodyPost_ret (v := .pointer (some ⟨w1.heap.size, 0, none⟩)) (by simp [results, Try.results15, go_sem]) rfl ⟨_, A, cap, rfl, ⟨World.rowIs_alloc w1 _ 61 (rdV A cap (srcF s) ⟨0, 0, 0, 0⟩) (lt_cases7 rfl rfl rfl rfl rfl rfl rfl), ht.below (lbox w1 _), hl, HS.out⟩, hb.trans ((lbox w1 _).mono hb.size), hb.size⟩
end Go.Proofs.Ytmmfbeebjehkgaa
