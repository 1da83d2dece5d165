/-
  Which registers an instruction asks for, which it sets, where it leads, as the program tells: contracts. Conditions: those that each names.
-/
import Derived.Test.YtoajommeiocfpaaMirChkP
import Derived.Test.YtoajommeiocfpaaMirShape
import Derived.Deep.Cut
namespace Go.Proofs.Ytoajommeiocfpaa
open Go Go.RowKit
set_option linter.unusedSimpArgs false
set_option linter.unusedVariables false
set_option maxRecDepth 100000

def useD (x : Irx) : Int := if dM x.op = true then x.d else -1
def useL (x : Irx) : List Int := askL x (askN x.op)
theorem use_len (x : Irx) : (useL x).length ≤ 2 := by unfold useL; rw [ask_len x (ask_le x.op)]; exact ask_le x.op
/-- What is told of an instruction. -/
def UseP (L : List Int) (D : Int) (w : World) (e : Ending) (w' : World) : Prop := ∃ A c, e = .returned (.tuple #[.slice A L.length c, .int .i64 D]) ∧ IzAt w' A L ∧ Below w.heap.size w w'
abbrev UsesP (x : Irx) (w : World) (e : Ending) (w' : World) : Prop := UseP (useL x) (useD x) w e w'
theorem r_app {w : World} {B : Nat} {A : Option Addr} {c n : Nat} {l : List Int} (z : Int) (h : w.ownsRow B 3 1 (.slice A n c) n (izL l)) : (w.alloc (.cells #[.int .i64 z] 3)).ownsRow B 3 1 (.slice A n c) n (izL l) := own_below h (lboxM w _)
theorem izL_snoc (l : List Int) (z : Int) : izL (l ++ [z]) = izL l ++ [.int .i64 z] := by unfold izL; rw [List.map_append]; rfl
theorem own_done {w : World} {B : Nat} {A : Option Addr} {c n : Nat} {l : List Int} (h : w.ownsRow B 3 1 (.slice A n c) n (izL l)) (hn : l.length = n) : IzAt w A l := own_iz (by rw [hn]; exact h)
theorem use_is {x : Irx} {bd ba bb : Bool} (hd : dM x.op = bd) (ha : aM x.op = ba) (hb : bM x.op = bb) (hba : bb = true → ba = true) : useL x = (if ba = true then [x.a] else []) ++ (if bb = true then [x.b] else []) ∧ useD x = if bd = true then x.d else -1 := by
  unfold useL useD askN askL
  rw [hd, ha, hb]
  cases ba <;> cases bb <;> simp <;> (try simp at hba)

end Go.Proofs.Ytoajommeiocfpaa
namespace Go.Proofs.Ytoajommeiocfpaa
open Go Go.RowKit
set_option linter.unusedSimpArgs false
set_option linter.unusedVariables false
set_option maxRecDepth 100000

/-- Of so many numbers those that are places; of these each but once. -/
def fN (n : Nat) (L : List Int) : Nat → List Int
  | 0 => []
  | k + 1 => if 0 ≤ L.getD k 0 ∧ L.getD k 0 < n then fN n L k ++ [L.getD k 0] else fN n L k
def dN (n : Nat) (L : List Int) : Nat → List Int
  | 0 => []
  | k + 1 => if (0 ≤ L.getD k 0 ∧ L.getD k 0 < n) ∧ L.getD k 0 ∉ dN n L k then dN n L k ++ [L.getD k 0] else dN n L k
theorem fN_le (n : Nat) (L : List Int) : ∀ k, (fN n L k).length ≤ k
  | 0 => Nat.le_refl _
  | k + 1 => by
    have := fN_le n L k
    unfold fN
    split
    · rw [List.length_append]; simp; omega
    · omega
theorem dN_le (n : Nat) (L : List Int) : ∀ k, (dN n L k).length ≤ k
  | 0 => Nat.le_refl _
  | k + 1 => by
    have := dN_le n L k
    unfold dN
    split
    · rw [List.length_append]; simp; omega
    · omega
def allN (x : Irx) (at_ : Int) : List Int := if x.op < 1 ∨ 19 ≤ x.op then [] else if x.op = 14 then [x.t] else if 15 ≤ x.op then (if x.t = x.f then [x.t] else [x.t, x.f]) else [at_ + 1]
def wayL (x : Irx) (at_ : Int) : List Int := if 0 < aimN x.op then aimL x (aimN x.op) else if dM x.op = true then [at_ + 1] else []
theorem way_len (x : Irx) (at_ : Int) : (wayL x at_).length ≤ 2 := by
  unfold wayL
  split
  · rw [aim_len x (aim_le x.op)]; exact aim_le x.op
  · split <;> simp
theorem all_len (x : Irx) (at_ : Int) : (allN x at_).length ≤ 2 := by
  unfold allN
  split
  · simp
  · split
    · simp
    · split
      · split <;> simp
      · simp
theorem way_all (x : Irx) (at_ : Int) (n : Nat) : dN n (wayL x at_) (wayL x at_).length = fN n (allN x at_) (allN x at_).length := by
  have h1 : ∀ z : Int, dN n [z] 1 = fN n [z] 1 := fun z => by simp [dN, fN]
  by_cases hop : 1 ≤ x.op ∧ x.op ≤ 19
  · have hd : dM x.op = decide (x.op ≤ 13) := by unfold dM; simp; omega
    have ht : tM x.op = decide (14 ≤ x.op ∧ x.op ≤ 18) := rfl
    have hf : fM x.op = decide (15 ≤ x.op ∧ x.op ≤ 18) := rfl
    unfold wayL allN aimN
    by_cases g13 : x.op ≤ 13
    · have e1 : fM x.op = false := by rw [hf]; simp; omega
      have e2 : tM x.op = false := by rw [ht]; simp; omega
      have e3 : dM x.op = true := by rw [hd]; simp; omega
      rw [e1, e2, e3, if_neg (show ¬ (x.op < 1 ∨ 19 ≤ x.op) by omega), if_neg (show ¬ x.op = 14 by omega), if_neg (show ¬ 15 ≤ x.op by omega)]
      simp only [Bool.false_eq_true, if_false, Nat.lt_irrefl, if_true, List.length_cons, List.length_nil]
      exact h1 _
    · by_cases g14 : x.op = 14
      · have e1 : fM x.op = false := by rw [hf]; simp; omega
        have e2 : tM x.op = true := by rw [ht]; simp; omega
        rw [e1, e2, if_neg (show ¬ (x.op < 1 ∨ 19 ≤ x.op) by omega), if_pos g14]
        simp only [Bool.false_eq_true, if_false, if_true, Nat.lt_irrefl, Nat.zero_lt_one, aimL, List.take_succ_cons, List.take_zero, List.length_cons, List.length_nil]
        exact h1 _
      · by_cases g18 : x.op ≤ 18
        · have e1 : fM x.op = true := by rw [hf]; simp; omega
          rw [e1, if_neg (show ¬ (x.op < 1 ∨ 19 ≤ x.op) by omega), if_neg g14, if_pos (show 15 ≤ x.op by omega)]
          simp only [if_true, show (0 : Nat) < 2 by decide, aimL, List.take_succ_cons, List.take_zero]
          by_cases e : x.t = x.f
          · rw [if_pos e, e]
            simp only [List.length_cons, List.length_nil]
            by_cases hin : 0 ≤ x.f ∧ x.f < (n : Int)
            · simp [dN, fN, hin]
            · simp [dN, fN, hin]
          · rw [if_neg e]
            simp only [List.length_cons, List.length_nil]
            by_cases hin : 0 ≤ x.t ∧ x.t < (n : Int)
            · have e' : ¬ x.f = x.t := fun h => e h.symm
              by_cases hin2 : 0 ≤ x.f ∧ x.f < (n : Int)
              · simp [dN, fN, hin, hin2, e']
              · simp [dN, fN, hin, hin2, e']
            · by_cases hin2 : 0 ≤ x.f ∧ x.f < (n : Int)
              · simp [dN, fN, hin, hin2]
              · simp [dN, fN, hin, hin2]
        · have e1 : fM x.op = false := by rw [hf]; simp; omega
          have e2 : tM x.op = false := by rw [ht]; simp; omega
          have e3 : dM x.op = false := by rw [hd]; simp; omega
          rw [e1, e2, e3, if_pos (show (x.op < 1 ∨ 19 ≤ x.op) by omega)]
          simp [dN, fN]
  · have e1 : fM x.op = false := by unfold fM; simp; omega
    have e2 : tM x.op = false := by unfold tM; simp; omega
    have e3 : dM x.op = false := by unfold dM; simp; omega
    unfold wayL allN aimN
    rw [e1, e2, e3, if_pos (show (x.op < 1 ∨ 19 ≤ x.op) by omega)]
    simp [dN, fN]
/-- What is told of a place. -/
def nextM (n : Nat) (q : Nat → Irx) (at_ : Int) : List Int := if at_ < 0 ∨ (n : Int) ≤ at_ then [] else fN n (allN (q at_.toNat) at_) (allN (q at_.toNat) at_).length
theorem next_len (n : Nat) (q : Nat → Irx) (at_ : Int) : (nextM n q at_).length ≤ 2 := by
  unfold nextM
  split
  · simp
  · exact Nat.le_trans (fN_le _ _ _) (all_len _ _)
def NexP (L : List Int) (w : World) (e : Ending) (w' : World) : Prop := ∃ A c, e = .returned (.slice A L.length c) ∧ IzAt w' A L ∧ Below w.heap.size w w'
/-! ### The program -/
def idxZ (z : Int) : List Int → Int → Int
  | [], _ => -1
  | y :: r, k => if z = y then k else idxZ z r (k + 1)
theorem idxZ_has (z : Int) : ∀ (l : List Int) (k : Int), 0 ≤ k → (decide (0 ≤ idxZ z l k) = decide (z ∈ l))
  | [], k, hk => by simp [idxZ]
  | y :: r, k, hk => by
    unfold idxZ
    by_cases h : z = y
    · rw [if_pos h]; simp [h, hk]
    · rw [if_neg h, idxZ_has z r (k + 1) (by omega)]; simp [h]
theorem idxZ_at (z : Int) : ∀ (l : List Int) (k : Int) (j : Nat), (∀ i, i < j → z ≠ l.getD i 0) → j ≤ l.length → idxZ z l k = idxZ z (l.drop j) (k + j)
  | l, k, 0, _, _ => by simp
  | [], k, j + 1, _, hj => absurd hj (by simp)
  | y :: r, k, j + 1, h, hj => by
    have h0 : z ≠ y := h 0 (by omega)
    rw [idxZ, if_neg h0, idxZ_at z r (k + 1) j (fun i hi => by have := h (i + 1) (by omega); simpa using this) (by simpa using hj)]
    rw [List.drop_succ_cons, show k + 1 + (j : Int) = k + ((j + 1 : Nat) : Int) by omega]
/-- A row that grows by the numbers that are told. -/
abbrev GrowP (V wr : World) (out : Value) (L : List Int) : Prop := wr.ownsRow V.heap.size 3 1 out L.length (izL L) ∧ Below V.heap.size V wr
end Go.Proofs.Ytoajommeiocfpaa
