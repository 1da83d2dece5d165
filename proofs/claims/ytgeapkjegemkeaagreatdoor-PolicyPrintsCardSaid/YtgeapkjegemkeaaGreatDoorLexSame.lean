/-
  Tokens in memory, and the document's Same of two lists that are the same: a contract. Conditions: those that it names.
-/
import Derived.Test.YtgeapkjegemkeaaGreatDoorLexToks
import Derived.Test.YtgeapkjegemkeaaGreatDoorMemory
namespace Go.Proofs.YtgeapkjegemkeaaGreatDoor
open Go Go.RowKit
set_option linter.unusedSimpArgs false
set_option linter.unusedVariables false

/-- A token's four cells. -/
def TokCells (w : World) (b o : Nat) (x : Nx) : Prop := w.cell? ⟨b, o, none⟩ = some (.int .i64 x.kind) ∧ w.cell? ⟨b, o + 1, none⟩ = some (.string x.text) ∧ w.cell? ⟨b, o + 2, none⟩ = some (.int .u64 (x.num : Int)) ∧ w.cell? ⟨b, o + 3, none⟩ = some (.int .i64 (x.pos : Int))
theorem TokCells.below {w w' : World} {B b o : Nat} {x : Nx} (h : TokCells w b o x) (hb : Below B w w') (hlt : b < B) : TokCells w' b o x :=
  ⟨(hb.cell (p := ⟨b, o, none⟩) hlt).trans h.1, (hb.cell (p := ⟨b, o + 1, none⟩) hlt).trans h.2.1, (hb.cell (p := ⟨b, o + 2, none⟩) hlt).trans h.2.2.1, (hb.cell (p := ⟨b, o + 3, none⟩) hlt).trans h.2.2.2⟩
/-- A list of n tokens lies from A on. -/
def TokAt (w : World) (A : Option Addr) (n : Nat) (f : Nat → Nx) : Prop := 0 < n → ∃ b o, A = some ⟨b, o, none⟩ ∧ b < w.heap.size ∧ ∀ i, i < n → TokCells w b (o + i * 4) (f i)
theorem TokAt.below {w w' : World} {A : Option Addr} {n : Nat} {f : Nat → Nx} (h : TokAt w A n f) (hb : Below w.heap.size w w') : TokAt w' A n f := fun hn => by
  obtain ⟨b, o, rfl, hl, hc⟩ := h hn
  exact ⟨b, o, rfl, Nat.lt_of_lt_of_le hl hb.size, fun i hi => (hc i hi).below hb hl⟩
theorem TokAt.drawn {w : World} {A : Option Addr} {n : Nat} {f : Nat → Nx} (h : TokAt w A n f) (m : Nat) : TokAt (w.drewN m) A n f := h
theorem tksC_at : ∀ (l : List Nx) (i j : Nat) (hi : i < l.length), j < 4 → (tksC l)[i * 4 + j]? = (tkC (l[i]))[j]?
  | x :: r, 0, j, _, hj => by
    show (tkC x ++ tksC r)[0 * 4 + j]? = (tkC x)[j]?
    rw [Nat.zero_mul, Nat.zero_add, List.getElem?_append_left (by simpa [tkC] using hj)]
  | x :: r, i + 1, j, hi, hj => by
    show (tkC x ++ tksC r)[(i + 1) * 4 + j]? = (tkC (r[i]'(by simpa using hi)))[j]?
    rw [List.getElem?_append_right (by simp [tkC]; omega), ← tksC_at r i j (by simpa using hi) hj]
    congr 1; simp [tkC]; omega
def noTok : Nx := ⟨0, ⟨#[]⟩, 0, 0, 0, 0⟩
theorem own_tok {w : World} {base : Nat} {v : Value} {l : List Nx} (h : w.ownsRow base 77 4 v l.length (tksC l)) : ∃ A cap, v = .slice A l.length cap ∧ TokAt w A l.length (fun i => l.getD i noTok) := by
  rcases h.2 with ⟨hv, hn⟩ | ⟨g, cap, cur, hv, _, hh, _, _, hs, _⟩
  · exact ⟨none, 0, by rw [hv, hn], fun h => by omega⟩
  · refine ⟨some ⟨g, 0, none⟩, cap, hv, fun hn => ⟨g, 0, rfl, (h.lt g (by rw [hv]; rfl)).2, fun i hi => ?_⟩⟩
    subst hv
    have at_ : ∀ j, j < 4 → w.cell? ⟨g, i * 4 + j, none⟩ = (tkC (l.getD i noTok))[j]? := fun j hj => by
      rw [World.ownsRow.cellAt h (i * 4 + j) (by omega), tksC_at l i j hi hj, List.getD_eq_getElem?_getD, List.getElem?_eq_getElem hi]; rfl
    rw [Nat.zero_add]
    exact ⟨at_ 0 (by decide), at_ 1 (by decide), at_ 2 (by decide), at_ 3 (by decide)⟩
theorem text_ne {s t : ByteArray} (h : ¬ s = t) : (s.toList == t.toList) = false := by
  refine beq_false_of_ne fun e => h ?_
  rw [ByteArray.toList_eq, ByteArray.toList_eq] at e
  cases s; cases t
  simp only [ByteArray.mk.injEq] at *
  exact Array.toList_inj.1 e
end Go.Proofs.YtgeapkjegemkeaaGreatDoor
