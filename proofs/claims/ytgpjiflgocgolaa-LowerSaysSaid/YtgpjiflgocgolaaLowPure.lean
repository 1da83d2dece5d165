/-
  Decisions laid as programs, as plain functions: which ways are long, where the nodes' instructions stand, which they are. No condition: nothing here speaks of a program of Go's.
-/
import Derived.RowKit
namespace Go.Proofs.Ytgpjiflgocgolaa
set_option linter.unusedSimpArgs false
set_option linter.unusedVariables false

/-- A node. -/
structure Nd where
  leaf : Bool
  word : Nat
  off : Int
  mask : Nat
  op : Int
  k : Nat
  t : Int
  f : Int
/-- What is wrong with a node at a place of so many. -/
def faultN (x : Nd) (i n : Nat) : Int :=
  if x.leaf = true then 0
  else if ¬ (0 ≤ x.off ∧ x.off < 64 ∧ x.off % 4 = 0) ∨ ¬ (1 ≤ x.op ∧ x.op ≤ 4) then 84
  else if ¬ ((i : Int) < x.t ∧ x.t < n) ∨ ¬ ((i : Int) < x.f ∧ x.f < n) then 85
  else 0
section
variable (nd : Nat → Nd) (n : Nat)
/-- The first that is wrong, of m from place i on. -/
def findN : Nat → Nat → Int × Nat
  | _, 0 => (0, 0)
  | i, m + 1 => if faultN (nd i) i n = 0 then findN (i + 1) m else (faultN (nd i) i n, i)
def chkN : Int × Nat := if n = 0 ∨ 4096 < n then (83, 0) else findN nd n 0 n
/-- May these be a decision? -/
structure ValN : Prop where
  pos : 0 < n
  le : n ≤ 4096
  ways : ∀ i, i < n → (nd i).leaf = false → ((i : Int) < (nd i).t ∧ (nd i).t < n) ∧ ((i : Int) < (nd i).f ∧ (nd i).f < n)
theorem fault_cases (x : Nd) (i n : Nat) : faultN x i n = 0 ∨ faultN x i n = 84 ∨ faultN x i n = 85 := by
  unfold faultN; split
  · exact .inl rfl
  · split
    · exact .inr (.inl rfl)
    · split
      · exact .inr (.inr rfl)
      · exact .inl rfl
theorem find_ok : ∀ m i, (findN nd n i m).1 = 0 → ∀ j, i ≤ j → j < i + m → faultN (nd j) j n = 0
  | 0, i, _, j, h1, h2 => by omega
  | m + 1, i, h, j, h1, h2 => by
    unfold findN at h
    by_cases hz : faultN (nd i) i n = 0
    · rw [if_pos hz] at h
      rcases Nat.eq_or_lt_of_le h1 with e | e
      · subst e; exact hz
      · exact find_ok m (i + 1) h j e (by omega)
    · rw [if_neg hz] at h; exact absurd h hz
theorem chk_ok (h : (chkN nd n).1 = 0) : ValN nd n := by
  unfold chkN at h
  by_cases h0 : n = 0 ∨ 4096 < n
  · rw [if_pos h0] at h; exact absurd h (by decide)
  · rw [if_neg h0] at h
    refine ⟨by omega, by omega, fun i hi hl => ?_⟩
    have := find_ok nd n n 0 h i (Nat.zero_le _) (by omega)
    unfold faultN at this
    rw [if_neg (by rw [hl]; decide)] at this
    split at this
    · exact absurd this (by decide)
    · split at this
      · exact absurd this (by decide)
      · rename_i g
        constructor
        · exact Decidable.byContradiction fun q => g (.inl q)
        · exact Decidable.byContradiction fun q => g (.inr q)
end
/-! ### Long ways -/
abbrev Ways := Nat → Bool × Bool
def manyN (w : Bool × Bool) : Nat := (if w.1 = true then 1 else 0) + (if w.2 = true then 1 else 0)
def sizeN (x : Nd) (w : Bool × Bool) : Nat := if x.leaf = true then 1 else (if x.mask = 4294967295 then 2 else 3) + manyN w
theorem many_le (w : Bool × Bool) : manyN w ≤ 2 := by unfold manyN; split <;> split <;> omega
theorem size_le (x : Nd) (w : Bool × Bool) : 1 ≤ sizeN x w ∧ sizeN x w ≤ 5 := by
  have := many_le w
  unfold sizeN; split
  · omega
  · split <;> omega
section
variable (nd : Nat → Nd) (n : Nat)
/-- The first instruction of a node. -/
def firstN (lg : Ways) : Nat → Nat
  | 0 => 0
  | i + 1 => firstN lg i + sizeN (nd i) (lg i)
theorem first_le (lg : Ways) : ∀ i, i ≤ firstN nd lg i ∧ firstN nd lg i ≤ 5 * i
  | 0 => ⟨Nat.le_refl _, Nat.le_refl _⟩
  | i + 1 => by have := first_le lg i; have := size_le (nd i) (lg i); rw [firstN]; omega
theorem first_mono (lg : Ways) {a b : Nat} (h : a ≤ b) : firstN nd lg a ≤ firstN nd lg b := by
  induction b with
  | zero => obtain rfl : a = 0 := by omega
            exact Nat.le_refl _
  | succ b ih =>
    rcases Nat.eq_or_lt_of_le h with e | e
    · subst e; exact Nat.le_refl _
    · have := ih (by omega); rw [firstN]; omega
/-- The place behind a test's jump. -/
def behN (lg : Ways) (i : Nat) : Int := (firstN nd lg (i + 1) : Int) - (manyN (lg i) : Int)
def overT (lg : Ways) (i : Nat) : Int := (firstN nd lg (nd i).t.toNat : Int) - behN nd lg i
def overF (lg : Ways) (i : Nat) : Int := (firstN nd lg (nd i).f.toNat : Int) - behN nd lg i
def stepN (lg : Ways) : Ways := fun i => if i < n ∧ (nd i).leaf = false then (decide (255 < overT nd lg i), decide (255 < overF nd lg i)) else (false, false)
def iterN : Nat → Ways
  | 0 => fun _ => (false, false)
  | k + 1 => stepN nd n (iterN k)
def LeW (a b : Ways) : Prop := ∀ i, ((a i).1 = true → (b i).1 = true) ∧ ((a i).2 = true → (b i).2 = true)
variable {nd n}
theorem many_mono {a b : Bool × Bool} (h : (a.1 = true → b.1 = true) ∧ (a.2 = true → b.2 = true)) : manyN a ≤ manyN b := by
  obtain ⟨a1, a2⟩ := a
  obtain ⟨b1, b2⟩ := b
  unfold manyN
  cases a1 <;> cases a2 <;> cases b1 <;> cases b2 <;> simp_all
theorem size_mono {x : Nd} {a b : Bool × Bool} (h : manyN a ≤ manyN b) : sizeN x a ≤ sizeN x b := by
  unfold sizeN; split
  · exact Nat.le_refl _
  · omega
theorem first_seg {a b : Ways} (h : LeW a b) (i : Nat) : ∀ d, firstN nd a (i + d) + firstN nd b i ≤ firstN nd b (i + d) + firstN nd a i
  | 0 => by rw [Nat.add_zero]; omega
  | d + 1 => by
    have := first_seg h i d
    have := size_mono (x := nd (i + d)) (many_mono (h (i + d)))
    rw [show i + (d + 1) = (i + d) + 1 by omega, firstN, firstN]
    omega
theorem over_mono {a b : Ways} (h : LeW a b) {i j : Nat} (hij : i + 1 ≤ j) : (firstN nd a j : Int) - behN nd a i ≤ (firstN nd b j : Int) - behN nd b i := by
  have h1 := first_seg (nd := nd) h (i + 1) (j - (i + 1))
  rw [show i + 1 + (j - (i + 1)) = j by omega] at h1
  have h2 := many_mono (h i)
  unfold behN
  omega
theorem step_mono (hv : ValN nd n) {a b : Ways} (h : LeW a b) : LeW (stepN nd n a) (stepN nd n b) := by
  intro i
  unfold stepN
  by_cases hi : i < n ∧ (nd i).leaf = false
  · rw [if_pos hi, if_pos hi]
    have hw := hv.ways i hi.1 hi.2
    have h1 := over_mono (nd := nd) h (i := i) (j := (nd i).t.toNat) (by omega)
    have h2 := over_mono (nd := nd) h (i := i) (j := (nd i).f.toNat) (by omega)
    refine ⟨fun g => decide_eq_true ?_, fun g => decide_eq_true ?_⟩
    · have := of_decide_eq_true g
      unfold overT at this ⊢
      omega
    · have := of_decide_eq_true g
      unfold overF at this ⊢
      omega
  · rw [if_neg hi, if_neg hi]; exact ⟨fun g => g, fun g => g⟩
theorem iter_up (hv : ValN nd n) : ∀ k, LeW (iterN nd n k) (iterN nd n (k + 1))
  | 0 => fun i => ⟨fun g => absurd g (by show ¬ false = true; decide), fun g => absurd g (by show ¬ false = true; decide)⟩
  | k + 1 => step_mono hv (iter_up hv k)
/-- How many are long. -/
def cntN (lg : Ways) : Nat → Nat
  | 0 => 0
  | i + 1 => cntN lg i + manyN (lg i)
theorem cnt_le (lg : Ways) : ∀ i, cntN lg i ≤ 2 * i
  | 0 => Nat.le_refl _
  | i + 1 => by have := cnt_le lg i; have := many_le (lg i); rw [cntN]; omega
theorem many_eq {a b : Bool × Bool} (h : (a.1 = true → b.1 = true) ∧ (a.2 = true → b.2 = true)) (e : manyN b ≤ manyN a) : a = b := by
  obtain ⟨a1, a2⟩ := a
  obtain ⟨b1, b2⟩ := b
  unfold manyN at e
  cases a1 <;> cases a2 <;> cases b1 <;> cases b2 <;> simp_all
theorem cnt_more {a b : Ways} (h : LeW a b) : ∀ m, cntN a m ≤ cntN b m ∧ (cntN b m ≤ cntN a m → ∀ i, i < m → a i = b i)
  | 0 => ⟨Nat.le_refl _, fun _ i hi => by omega⟩
  | m + 1 => by
    have ih := cnt_more h m
    have h1 := many_mono (h m)
    rw [cntN, cntN]
    refine ⟨by omega, fun e i hi => ?_⟩
    rcases Nat.eq_or_lt_of_le (Nat.lt_succ_iff.1 hi) with g | g
    · subst g; exact many_eq (h i) (by omega)
    · exact ih.2 (by omega) i g
theorem iter_out (k : Nat) {i : Nat} (hi : ¬ i < n) : iterN nd n k i = (false, false) := by
  cases k with
  | zero => rfl
  | succ k => exact if_neg (fun g => hi g.1)
/-- A turn that changes something makes more long ones; so there are 2n such turns at most. -/
theorem iter_more (hv : ValN nd n) (k : Nat) (h : ∃ i, i < n ∧ iterN nd n (k + 1) i ≠ iterN nd n k i) : cntN (iterN nd n k) n + 1 ≤ cntN (iterN nd n (k + 1)) n := by
  have hc := cnt_more (iter_up hv k) n
  rcases Nat.lt_or_ge (cntN (iterN nd n k) n) (cntN (iterN nd n (k + 1)) n) with g | g
  · exact g
  · obtain ⟨i, hi, hne⟩ := h
    exact absurd (hc.2 g i hi).symm hne
theorem iter_same {k : Nat} (h : ∀ i, i < n → iterN nd n (k + 1) i = iterN nd n k i) : iterN nd n (k + 1) = iterN nd n k := by
  funext i
  by_cases hi : i < n
  · exact h i hi
  · rw [iter_out _ hi, iter_out _ hi]
theorem ways_stay {k : Nat} (h : iterN nd n (k + 1) = iterN nd n k) : ∀ d, iterN nd n (k + d) = iterN nd n k
  | 0 => rfl
  | d + 1 => by
    have := ways_stay h d
    show stepN nd n (iterN nd n (k + d)) = _
    rw [this]; exact h
/-- Which ways are long, in the end. -/
def longN (nd : Nat → Nd) (n : Nat) : Ways := iterN nd n (2 * n)
theorem long_is {k : Nat} (hk : k ≤ 2 * n) (h : ∀ i, i < n → iterN nd n (k + 1) i = iterN nd n k i) : iterN nd n k = longN nd n := by
  have := ways_stay (iter_same h) (2 * n - k)
  rw [show k + (2 * n - k) = 2 * n by omega] at this
  exact this.symm
end
/-! ### Instructions -/
/-- An instruction: its Code, Jt, Jf, K. -/
abbrev I4 := Nat × Nat × Nat × Nat
def codeN (o : Int) : Nat := if o = 1 then 21 else if o = 2 then 37 else if o = 3 then 53 else 69
section
variable (nd : Nat → Nd) (n : Nat)
def u32N (z : Int) : Nat := (z % 4294967296).toNat
def u8N (z : Int) : Nat := (z % 256).toNat
def headN (x : Nd) : List I4 := if x.mask = 4294967295 then [(32, 0, 0, u32N x.off)] else [(32, 0, 0, u32N x.off), (84, 0, 0, x.mask)]
def jumpN (lg : Ways) (i : Nat) : I4 := (codeN (nd i).op, u8N (if (lg i).1 = true then 0 else overT nd lg i), u8N (if (lg i).2 = true then (manyN (lg i) : Int) - 1 else overF nd lg i), (nd i).k)
def wayT (lg : Ways) (i : Nat) : List I4 := if (lg i).1 = true then [(5, 0, 0, u32N (overT nd lg i - 1))] else []
def wayF (lg : Ways) (i : Nat) : List I4 := if (lg i).2 = true then [(5, 0, 0, u32N (overF nd lg i - (manyN (lg i) : Int)))] else []
def insN (lg : Ways) (i : Nat) : List I4 := if (nd i).leaf = true then [(6, 0, 0, (nd i).word)] else headN (nd i) ++ ([jumpN nd lg i] ++ (wayT nd lg i ++ wayF nd lg i))
def emitN (lg : Ways) : Nat → List I4
  | 0 => []
  | i + 1 => emitN lg i ++ insN nd lg i
theorem ins_len (lg : Ways) (i : Nat) : (insN nd lg i).length = sizeN (nd i) (lg i) := by
  unfold insN sizeN
  by_cases hl : (nd i).leaf = true
  · rw [if_pos hl, if_pos hl]; rfl
  · rw [if_neg hl, if_neg hl]
    have h1 : (headN (nd i)).length = if (nd i).mask = 4294967295 then 1 else 2 := by unfold headN; split <;> rfl
    have h2 : (wayT nd lg i).length = if (lg i).1 = true then 1 else 0 := by unfold wayT; split <;> rfl
    have h3 : (wayF nd lg i).length = if (lg i).2 = true then 1 else 0 := by unfold wayF; split <;> rfl
    simp only [List.length_append, List.length_cons, List.length_nil, h1, h2, h3]
    unfold manyN
    split <;> split <;> split <;> omega
theorem emit_len (lg : Ways) : ∀ i, (emitN nd lg i).length = firstN nd lg i
  | 0 => rfl
  | i + 1 => by rw [emitN, firstN, List.length_append, emit_len lg i, ins_len]
def emitR : List I4 × Int := if (chkN nd n).1 = 0 then (if 4096 < firstN nd (longN nd n) n then ([], 91) else (emitN nd (longN nd n) n, 0)) else ([], (chkN nd n).1)
end
end Go.Proofs.Ytgpjiflgocgolaa
