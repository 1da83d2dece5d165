/-
  Which registers are asked for behind an instruction, as sets of bits: plain functions. No condition: nothing here speaks of a program of Go's.
-/
import Derived.Test.YtoajommeiocfpaaDoorMirNext
import Derived.Test.YtoajommeiocfpaaDoorWordMath
namespace Go.Proofs.YtoajommeiocfpaaDoor
open Go
set_option linter.unusedSimpArgs false
set_option linter.unusedVariables false

def onlyB (r : Int) : BitVec 64 := 1#64 <<< r.toNat
def orF (f : Int → BitVec 64) (l : List Int) : BitVec 64 := l.foldl (fun s r => s ||| f r) 0#64
theorem orF_snoc (f : Int → BitVec 64) (l : List Int) (r : Int) : orF f (l ++ [r]) = orF f l ||| f r := by unfold orF; rw [List.foldl_append]; rfl
theorem take_up {l : List Int} {k : Nat} (h : k < l.length) : l.take (k + 1) = l.take k ++ [l.getD k 0] := by
  rw [List.take_add_one, List.getElem?_eq_getElem h, List.getD_eq_getElem?_getD, List.getElem?_eq_getElem h]; rfl
theorem orF_take (f : Int → BitVec 64) {l : List Int} {k : Nat} (h : k < l.length) : orF f (l.take (k + 1)) = orF f (l.take k) ||| f (l.getD k 0) := by rw [take_up h, orF_snoc]
theorem fold_bit (f : Int → BitVec 64) (i : Nat) : ∀ (l : List Int) (s : BitVec 64), (l.foldl (fun s r => s ||| f r) s).getLsbD i = (s.getLsbD i || l.any (fun r => (f r).getLsbD i))
  | [], s => by simp
  | r :: l, s => by rw [List.foldl_cons, fold_bit f i l, BitVec.getLsbD_or, List.any_cons, Bool.or_assoc]
theorem orF_bit (f : Int → BitVec 64) (l : List Int) (i : Nat) : (orF f l).getLsbD i = l.any (fun r => (f r).getLsbD i) := by
  unfold orF; rw [fold_bit]; simp
theorem only_bit {r : Int} (h : 0 ≤ r ∧ r < 64) (i : Nat) : (onlyB r).getLsbD i = decide ((i : Int) = r) := by
  unfold onlyB
  rw [BitVec.getLsbD_shiftLeft, one_lsb]
  by_cases e : (i : Int) = r
  · rw [decide_eq_true e]
    have : i = r.toNat := by omega
    subst this
    simp; omega
  · rw [decide_eq_false e]
    by_cases g : i < r.toNat
    · simp [g]
    · have : i - r.toNat ≠ 0 := by omega
      simp [this]
def usesB (x : Irx) : BitVec 64 := orF onlyB (useL x)
def setsB (x : Irx) : BitVec 64 := if 0 ≤ useD x then onlyB (useD x) else 0#64
def fromF (q : Nat → Irx) (n : Nat) : Nat → Nat → BitVec 64
  | 0, _ => 0#64
  | f + 1, i => (orF (fun k => fromF q n f k.toNat) (nextM n q (i : Int)) &&& ~~~setsB (q i)) ||| usesB (q i)
def fromB (q : Nat → Irx) (n i : Nat) : BitVec 64 := fromF q n (n - i) i
def laterB (q : Nat → Irx) (n i : Nat) : BitVec 64 := orF (fun k => fromB q n k.toNat) (nextM n q (i : Int))
theorem fN_mem (n : Nat) (L : List Int) : ∀ {k : Nat} {z : Int}, z ∈ fN n L k → 0 ≤ z ∧ z < n ∧ ∃ j, j < k ∧ z = L.getD j 0
  | 0, z, h => absurd h (by simp [fN])
  | k + 1, z, h => by
    rw [fN] at h
    split at h
    · rename_i g
      rcases List.mem_append.1 h with h | h
      · obtain ⟨h1, h2, j, h3, h4⟩ := fN_mem n L h; exact ⟨h1, h2, j, by omega, h4⟩
      · obtain rfl := List.mem_singleton.1 h; exact ⟨g.1, g.2, k, by omega, rfl⟩
    · obtain ⟨h1, h2, j, h3, h4⟩ := fN_mem n L h; exact ⟨h1, h2, j, by omega, h4⟩
/-- Ways go forward. -/
theorem next_in {regs : Int} {q : Nat → Irx} {n : Nat} (h : RightM regs q n) {i : Nat} (hi : i < n) {z : Int} (hz : z ∈ nextM n q (i : Int)) : (i : Int) < z ∧ z < n := by
  unfold nextM at hz
  rw [if_neg (by omega), Int.toNat_natCast] at hz
  obtain ⟨h1, h2, j, h3, h4⟩ := fN_mem n _ hz
  refine ⟨?_, h2⟩
  have ho := oneM_ok.1 (h.all i hi)
  generalize q i = x at *
  have hop := ho.op
  have ht := ho.t
  have hf := ho.f
  unfold allN at h3 h4
  by_cases g : x.op < 1 ∨ 19 ≤ x.op
  · rw [if_pos g] at h3; exact absurd h3 (by simp)
  rw [if_neg g] at h3 h4
  by_cases g14 : x.op = 14
  · rw [if_pos g14] at h3 h4
    have hj : j = 0 := by simpa using h3
    subst hj
    have := (ht (by unfold tM; simp; omega)).1
    rw [h4]; exact this
  rw [if_neg g14] at h3 h4
  by_cases g15 : 15 ≤ x.op
  · have h5 := (ht (by unfold tM; simp; omega)).1
    have h6 := (hf (by unfold fM; simp; omega)).1
    rw [if_pos g15] at h3 h4
    by_cases ge : x.t = x.f
    · rw [if_pos ge] at h3 h4
      have hj : j = 0 := by simpa using h3
      subst hj
      rw [h4]; exact h5
    · rw [if_neg ge] at h3 h4
      have hj : j = 0 ∨ j = 1 := by simp at h3; omega
      rcases hj with rfl | rfl
      · rw [h4]; exact h5
      · rw [h4]; exact h6
  · rw [if_neg g15] at h3 h4
    have hj : j = 0 := by simpa using h3
    subst hj
    rw [h4]; show (i : Int) < (i : Int) + 1; omega
theorem orF_congr {f g : Int → BitVec 64} : ∀ {l : List Int}, (∀ z ∈ l, f z = g z) → orF f l = orF g l := by
  intro l h
  apply BitVec.eq_of_getLsbD_eq
  intro i hi
  rw [orF_bit, orF_bit]
  induction l with
  | nil => rfl
  | cons a l ih => rw [List.any_cons, List.any_cons, h a (by simp), ih (fun z hz => h z (List.mem_cons_of_mem _ hz))]
theorem from_two {regs : Int} {q : Nat → Irx} {n : Nat} (h : RightM regs q n) : ∀ (f g i : Nat), i < n → n - i ≤ f → n - i ≤ g → fromF q n f i = fromF q n g i
  | 0, g, i, hi, hf, hg => absurd hf (by omega)
  | f + 1, 0, i, hi, hf, hg => absurd hg (by omega)
  | f + 1, g + 1, i, hi, hf, hg => by
    rw [fromF, fromF]
    have : orF (fun k => fromF q n f k.toNat) (nextM n q (i : Int)) = orF (fun k => fromF q n g k.toNat) (nextM n q (i : Int)) := orF_congr fun z hz => by
      have := next_in h hi hz
      exact from_two h f g z.toNat (by omega) (by omega) (by omega)
    rw [this]
theorem from_enough {regs : Int} {q : Nat → Irx} {n : Nat} (h : RightM regs q n) (f i : Nat) (hi : i < n) (hf : n - i ≤ f) : fromF q n f i = fromB q n i := from_two h f (n - i) i hi hf (Nat.le_refl _)
theorem from_eq {regs : Int} {q : Nat → Irx} {n : Nat} (h : RightM regs q n) {i : Nat} (hi : i < n) : fromB q n i = (laterB q n i &&& ~~~setsB (q i)) ||| usesB (q i) := by
  have he : fromB q n i = fromF q n (n - i - 1 + 1) i := by unfold fromB; rw [show n - i - 1 + 1 = n - i by omega]
  rw [he, fromF]
  have : orF (fun k => fromF q n (n - i - 1) k.toNat) (nextM n q (i : Int)) = laterB q n i := orF_congr fun z hz => by
    have := next_in h hi hz
    exact from_enough h _ _ (by omega) (by omega)
  rw [this]
end Go.Proofs.YtoajommeiocfpaaDoor
