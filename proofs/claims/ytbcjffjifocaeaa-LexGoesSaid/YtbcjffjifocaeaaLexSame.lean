/-
  Tokens in memory, and the document's Same of two lists that are the same: a contract. Conditions: those that it names.
-/
import Derived.Test.YtbcjffjifocaeaaLexToks
import Derived.Test.YtbcjffjifocaeaaMemory
namespace Go.Proofs.Ytbcjffjifocaeaa
open Go Go.RowKit
set_option linter.unusedSimpArgs false
set_option linter.unusedVariables false

/-- A token's four cells. -/
def TokCells (w : World) (b o : Nat) (x : Nx) : Prop := w.cell? ⟨b, o, none⟩ = some (.int .i64 x.kind) ∧ w.cell? ⟨b, o + 1, none⟩ = some (.string x.text) ∧ w.cell? ⟨b, o + 2, none⟩ = some (.int .u64 (x.num : Int)) ∧ w.cell? ⟨b, o + 3, none⟩ = some (.int .i64 (x.pos : Int))
theorem TokCells.below {w w' : World} {B b o : Nat} {x : Nx} (h : TokCells w b o x) (hb : Below B w w') (hlt : b < B) : TokCells w' b o x :=
  ⟨(hb.cell (p := ⟨b, o, none⟩) hlt).trans h.1, (hb.cell (p := ⟨b, o + 1, none⟩) hlt).trans h.2.1, (hb.cell (p := ⟨b, o + 2, none⟩) hlt).trans h.2.2.1, (hb.cell (p := ⟨b, o + 3, none⟩) hlt).trans h.2.2.2⟩
/-- A list of n tokens lies from A on. -/
def TokAt (w : World) (A : Option Addr) (n : Nat) (f : Nat → Nx) : Prop := 0 < n → ∃ b o, A = some ⟨b, o, none⟩ ∧ b < w.heap.size ∧ ∀ i, i < n → TokCells w b (o + i * 4) (f i)
theorem TokAt.below {w w' : World} {A : Option Addr} {n : Nat} {f : Nat → Nx} (h : TokAt w A n f) (hb : Below w.heap.size w w') : TokAt w' A n f := fun hn => by
  obtain ⟨b, o, rfl, hl, hc⟩ := h hn
  exact ⟨b, o, rfl, Nat.lt_of_lt_of_le hl hb.size, fun i hi => (hc i hi).below hb hl⟩
theorem TokAt.drawn {w : World} {A : Option Addr} {n : Nat} {f : Nat → Nx} (h : TokAt w A n f) (m : Nat) : TokAt (w.drewN m) A n f := h
theorem tksC_at : ∀ (l : List Nx) (i j : Nat) (hi : i < l.length), j < 4 → (tksC l)[i * 4 + j]? = (tkC (l[i]))[j]?
  | x :: r, 0, j, _, hj => by
    show (tkC x ++ tksC r)[0 * 4 + j]? = (tkC x)[j]?
    rw [Nat.zero_mul, Nat.zero_add, List.getElem?_append_left (by simpa [tkC] using hj)]
  | x :: r, i + 1, j, hi, hj => by
    show (tkC x ++ tksC r)[(i + 1) * 4 + j]? = (tkC (r[i]'(by simpa using hi)))[j]?
    rw [List.getElem?_append_right (by simp [tkC]; omega), ← tksC_at r i j (by simpa using hi) hj]
    congr 1; simp [tkC]; omega
def noTok : Nx := ⟨0, ⟨#[]⟩, 0, 0, 0, 0⟩
theorem own_tok {w : World} {base : Nat} {v : Value} {l : List Nx} (h : w.ownsRow base 30 4 v l.length (tksC l)) : ∃ A cap, v = .slice A l.length cap ∧ TokAt w A l.length (fun i => l.getD i noTok) := by
  rcases h.2 with ⟨hv, hn⟩ | ⟨g, cap, cur, hv, _, hh, _, _, hs, _⟩
  · exact ⟨none, 0, by rw [hv, hn], fun h => by omega⟩
  · refine ⟨some ⟨g, 0, none⟩, cap, hv, fun hn => ⟨g, 0, rfl, (h.lt g (by rw [hv]; rfl)).2, fun i hi => ?_⟩⟩
    subst hv
    have at_ : ∀ j, j < 4 → w.cell? ⟨g, i * 4 + j, none⟩ = (tkC (l.getD i noTok))[j]? := fun j hj => by
      rw [World.ownsRow.cellAt h (i * 4 + j) (by omega), tksC_at l i j hi hj, List.getD_eq_getElem?_getD, List.getElem?_eq_getElem hi]; rfl
    rw [Nat.zero_add]
    exact ⟨at_ 0 (by decide), at_ 1 (by decide), at_ 2 (by decide), at_ 3 (by decide)⟩
theorem drewN_add5 (w : World) (m k : Nat) : (w.drewN m).drewN k = w.drewN (m + k) := by
  simp [World.drewN, Nat.add_assoc]
set_option maxHeartbeats 2000000 in
theorem ref_Same5 (w : World) (A A' : Option Addr) (n cap cap' : Nat) (q : Nat → Nx) (hn : n ≤ 140737488351232) (h : TokAt w A n q) (h' : TokAt w A' n q) :
    Calls Try.prog 11 #[.slice A n cap, .slice A' n cap'] w fun e w' => e = .returned (.bool true) ∧ ∃ m, w' = w.drewN m := by
  have HP := Lib.hid (And.intro h h')
  clear h h'
  go_enter Try.func11, Try.ntmps11
  go_wp2
  go_loopw [5] (fun i wr => ∃ k : Nat, k ≤ n ∧ i = .int .i64 (k : Int) ∧ ∃ m, wr = w.drewN m) (fun i _ => n - (intOf i).toNat)
  case atStart => exact ⟨0, by omega, rfl, 0, rfl⟩
  case round =>
    obtain ⟨k, hk, rfl, m, rfl⟩ := hrel
    by_cases hlt : k < n
    · have hlt' : (k : Int) < (n : Int) := by omega
      obtain ⟨b, o, rfl, hl, hc⟩ := (HP.out.1.drawn m) (by omega)
      obtain ⟨b', o', rfl, hl', hc'⟩ := (HP.out.2.drawn m) (by omega)
      obtain ⟨x0, x1, x2, x3⟩ := hc k hlt
      obtain ⟨y0, y1, y2, y3⟩ := hc' k hlt
      have HC := Lib.hid (And.intro hc hc')
      clear hc hc'
      have hW : ∃ W, W = w.drewN m := ⟨_, rfl⟩
      obtain ⟨W, hW⟩ := hW
      rw [← hW] at x0 x1 x2 x3 y0 y1 y2 y3 hl hl' ⊢
      have HW := Lib.hid hW
      clear hW
      go_wp2
      go_quiet (fail)
      go_wp2
      exact ⟨⟨k + 1, by omega, by go_num, m + nq, by rw [HW.out, drewN_add5]⟩, by simp [intOf]; omega⟩
    · go_wp2
      go_ret
      exact ⟨rfl, m, rfl⟩
/-- Are two tokens alike? -/
def tokB (x y : Nx) : Bool := decide (x.kind = y.kind ∧ x.text = y.text ∧ x.num = y.num ∧ x.pos = y.pos)
theorem text_ne {s t : ByteArray} (h : ¬ s = t) : (s.toList == t.toList) = false := by
  refine beq_false_of_ne fun e => h ?_
  rw [ByteArray.toList_eq, ByteArray.toList_eq] at e
  cases s; cases t
  simp only [ByteArray.mk.injEq] at *
  exact Array.toList_inj.1 e
set_option maxHeartbeats 2000000 in
theorem same_one_ne (w : World) (b o b' o' cap cap' : Nat) (x y : Nx) (h : TokCells w b o x) (h' : TokCells w b' o' y) (hne : tokB x y = false) :
    Calls Try.prog 11 #[.slice (some ⟨b, o, none⟩) 1 cap, .slice (some ⟨b', o', none⟩) 1 cap'] w fun e w' => e = .returned (.bool false) ∧ ∃ m, w' = w.drewN m := by
  obtain ⟨x0, x1, x2, x3⟩ := h
  obtain ⟨y0, y1, y2, y3⟩ := h'
  obtain ⟨xk, xt, xn, xp, x5, x6⟩ := x
  obtain ⟨yk, yt, yn, yp, y5, y6⟩ := y
  simp only at x0 x1 x2 x3 y0 y1 y2 y3
  have hd := of_decide_eq_false hne
  simp only at hd
  clear hne
  by_cases hk : xk = yk
  · subst hk
    by_cases ht : xt = yt
    · subst ht
      by_cases hn : xn = yn
      · subst hn
        have hp : ¬ (xp : Int) = (yp : Int) := fun e => hd ⟨rfl, rfl, rfl, by omega⟩
        have g3 : ((xp : Int) != (yp : Int)) = true := bne_iff_ne.2 hp
        clear hd
        go_enter Try.func11, Try.ntmps11
        go_wp2
        go_loopw [5] (fun i wr => i = .int .i64 0 ∧ wr = w) (fun i _ => 0)
        case atStart => exact ⟨rfl, rfl⟩
        case round =>
          obtain ⟨rfl, rfl⟩ := hrel
          go_wp2
          go_quiet (fail)
          go_wp2
          go_ret
          exact ⟨rfl, _, rfl⟩
      · have hp : ¬ (xn : Int) = (yn : Int) := fun e => hn (by omega)
        have g3 : ((xn : Int) != (yn : Int)) = true := bne_iff_ne.2 hp
        clear hd hn
        go_enter Try.func11, Try.ntmps11
        go_wp2
        go_loopw [5] (fun i wr => i = .int .i64 0 ∧ wr = w) (fun i _ => 0)
        case atStart => exact ⟨rfl, rfl⟩
        case round =>
          obtain ⟨rfl, rfl⟩ := hrel
          go_wp2
          go_quiet (fail)
          go_wp2
          go_ret
          exact ⟨rfl, _, rfl⟩
    · have g3 := text_ne ht
      clear hd ht
      go_enter Try.func11, Try.ntmps11
      go_wp2
      go_loopw [5] (fun i wr => i = .int .i64 0 ∧ wr = w) (fun i _ => 0)
      case atStart => exact ⟨rfl, rfl⟩
      case round =>
        obtain ⟨rfl, rfl⟩ := hrel
        go_wp2
        go_quiet (fail)
        go_wp2
        go_ret
        exact ⟨rfl, _, rfl⟩
  · have g3 : (xk != yk) = true := bne_iff_ne.2 hk
    clear hd
    go_enter Try.func11, Try.ntmps11
    go_wp2
    go_loopw [5] (fun i wr => i = .int .i64 0 ∧ wr = w) (fun i _ => 0)
    case atStart => exact ⟨rfl, rfl⟩
    case round =>
      obtain ⟨rfl, rfl⟩ := hrel
      go_wp2
      go_quiet (fail)
      go_wp2
      go_ret
      exact ⟨rfl, _, rfl⟩
theorem same_one (w : World) (b o b' o' cap cap' : Nat) (x y : Nx) (h : TokCells w b o x) (hl : b < w.heap.size) (h' : TokCells w b' o' y) (hl' : b' < w.heap.size) :
    Calls Try.prog 11 #[.slice (some ⟨b, o, none⟩) 1 cap, .slice (some ⟨b', o', none⟩) 1 cap'] w fun e w' => e = .returned (.bool (tokB x y)) ∧ ∃ m, w' = w.drewN m := by
  cases hb : tokB x y with
  | false => exact same_one_ne w b o b' o' cap cap' x y h h' hb
  | true =>
    have hd := of_decide_eq_true hb
    refine ref_Same5 w _ _ 1 cap cap' (fun _ => x) (by decide) (fun _ => ⟨b, o, rfl, hl, fun i hi => ?_⟩) (fun _ => ⟨b', o', rfl, hl', fun i hi => ?_⟩)
    · obtain rfl : i = 0 := by omega
      simpa using h
    · obtain rfl : i = 0 := by omega
      obtain ⟨h0, h1, h2, h3⟩ := h'
      simp only [Nat.zero_mul, Nat.add_zero]
      exact ⟨by rw [hd.1]; exact h0, by rw [hd.2.1]; exact h1, by rw [hd.2.2.1]; exact h2, by rw [hd.2.2.2]; exact h3⟩
end Go.Proofs.Ytbcjffjifocaeaa
