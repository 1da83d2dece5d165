/-
  The program reads a policy whole: contracts. Conditions: those that each names.
-/
import Derived.Test.YtgeapkjegemkeaaGreatDoorZRule
namespace Go.Proofs.YtgeapkjegemkeaaGreatDoor
open Go Go.RowKit
set_option linter.unusedSimpArgs false
set_option linter.unusedVariables false

abbrev poO (a : ByteArray) (fk fn dk dn : Int) (R : Value) : Obj := .cells #[.string a, .int .i64 fk, .int .u64 fn, .int .i64 dk, .int .u64 dn, R] 29
abbrev poV (a : ByteArray) (fk fn dk dn : Int) (R : Value) : Value := .agg #[.string a, .int .i64 fk, .int .u64 fn, .int .i64 dk, .int .u64 dn, R]
/-- A policy as a value. -/
def PoP (lo : Nat) (p : Po) (v : Value) (W : World) : Prop := ∃ R, v = poV p.arch p.foreign_.1 (p.foreign_.2 : Int) p.default_.1 (p.default_.2 : Int) R ∧ RulesP lo p.rules R W
theorem rules_keep {lo lo' : Nat} {l : List Ru} {v : Value} {W W' : World} (h : RulesP lo l v W) (hs : W.heap.size ≤ W'.heap.size) (hlo : lo' ≤ lo) (hk : ∀ k, lo ≤ k → k < W.heap.size → W'.heap[k]? = W.heap[k]?) : RulesP lo' l v W' := by
  rcases h with h | ⟨tb, cap, h1, h2, h3, h4⟩
  · exact .inl h
  · exact .inr ⟨tb, cap, h1, by omega, by omega, RuRow.keep hs (fun k hk => by omega) hk h2 h3 h4⟩
/-- A policy under way. -/
structure PoAt (w W : World) (b : Nat) (s : ByteArray) (i : Nat) (a : ByteArray) (fk fn dk dn : Int) : Prop where
  at_ : PAt W b s (tk (srcF s) i) 0
  gr : w.grownBy W (some b)
  box : W.heap[w.heap.size + 1]? = some (poO a fk fn dk dn (.slice none 0 0))
  res : W.heap[w.heap.size]? = some (poO ⟨#[]⟩ 0 0 0 0 (.slice none 0 0))
  bw : b < w.heap.size
namespace PoAt
variable {w W : World} {b : Nat} {s : ByteArray} {i : Nat} {a : ByteArray} {fk fn dk dn : Int}
theorem call {W' : World} {j : Nat} (h : PoAt w W b s i a fk fn dk dn) (hp : PAt W' b s (tk (srcF s) j) 0) (hg : W.grownBy W' (some b)) : PoAt w W' b s j a fk fn dk dn := by
  have := h.bw
  exact ⟨hp, grown_trans h.gr hg, kept_box h.box hg (by omega), kept_box h.res hg (by omega), h.bw⟩
theorem setArch (h : PoAt w W b s i a fk fn dk dn) (a' : ByteArray) : PoAt w (W.setCell ⟨w.heap.size + 1, 0, none⟩ (.string a')) b s i a' fk fn dk dn := by
  have := h.bw
  exact ⟨row_new h.at_ (by omega) 0 _, grown_new h.gr (by omega) 0 _, heap_set1 h.box 0 _, kept_set h.res (by omega) 0 _, h.bw⟩
end PoAt

end Go.Proofs.YtgeapkjegemkeaaGreatDoor
namespace Go.Proofs.YtgeapkjegemkeaaGreatDoor
open Go Go.RowKit
set_option linter.unusedSimpArgs false
set_option linter.unusedVariables false

theorem rules_set6 {w W : World} {lo : Nat} {l : List Ru} {Rv : Value} (h : RulesP lo l Rv W) (hlo : w.heap.size < lo) (a b c d e f : Value) :
    RulesP w.heap.size l Rv ((((((W.setCell ⟨w.heap.size, 0, none⟩ a).setCell ⟨w.heap.size, 1, none⟩ b).setCell ⟨w.heap.size, 2, none⟩ c).setCell ⟨w.heap.size, 3, none⟩ d).setCell ⟨w.heap.size, 4, none⟩ e).setCell ⟨w.heap.size, 5, none⟩ f) := by
  refine rules_keep h (by simp [World.setCell]) (by omega) (fun k hk _ => ?_)
  exact (Below.heap_setCell _ ⟨w.heap.size, 5, none⟩ f k (show k ≠ w.heap.size by omega)).trans ((Below.heap_setCell _ ⟨w.heap.size, 4, none⟩ e k (show k ≠ w.heap.size by omega)).trans ((Below.heap_setCell _ ⟨w.heap.size, 3, none⟩ d k (show k ≠ w.heap.size by omega)).trans ((Below.heap_setCell _ ⟨w.heap.size, 2, none⟩ c k (show k ≠ w.heap.size by omega)).trans ((Below.heap_setCell _ ⟨w.heap.size, 1, none⟩ b k (show k ≠ w.heap.size by omega)).trans (Below.heap_setCell _ ⟨w.heap.size, 0, none⟩ a k (show k ≠ w.heap.size by omega))))))
/-- A policy's text as it is read. -/
def policyF (s : ByteArray) : Got Po := readG (srcF s) (policyG (srcF s) ((srcF s).toks.length + 1))
end Go.Proofs.YtgeapkjegemkeaaGreatDoor
