/-
  Tokens of a text, as plain functions: blanks and remarks, words, numbers, signs, the token at a place, all tokens. No condition: nothing here speaks of a program of Go's.
-/
import Derived.Test.YtgeapkjegemkeaaGreatDoorRows
namespace Go.Proofs.YtgeapkjegemkeaaGreatDoor
set_option linter.unusedSimpArgs false
set_option linter.unusedVariables false

/-- Byte i of a text. -/
def byt (s : ByteArray) (i : Nat) : Nat := if h : i < s.size then s[i].toNat else 0
theorem byt_is {s : ByteArray} {i : Nat} (h : i < s.size) : s[i].toNat = byt s i := by unfold byt; rw [dif_pos h]
theorem byt_lt (s : ByteArray) (i : Nat) : byt s i < 256 := by
  unfold byt; split
  · exact UInt8.toNat_lt _
  · decide
def letB (c : Nat) : Bool := decide ((97 ≤ c ∧ c ≤ 122) ∨ (65 ≤ c ∧ c ≤ 90) ∨ c = 95)
def digB (c : Nat) : Bool := decide (48 ≤ c ∧ c ≤ 57)
def worB (c : Nat) : Bool := letB c || digB c
def blaB (c : Nat) : Bool := decide (c = 9 ∨ c = 10 ∨ c = 13 ∨ c = 32)
def hexB (c : Nat) : Bool := decide ((48 ≤ c ∧ c ≤ 57) ∨ (97 ≤ c ∧ c ≤ 102))
def linB (c : Nat) : Bool := decide (c ≠ 10)

/-- The first place from i on where p does not hold, or n. -/
def upTo (p : Nat → Bool) (f : Nat → Nat) (n i : Nat) : Nat := if i < n ∧ p (f i) = true then upTo p f n (i + 1) else i
termination_by n - i
theorem upTo_on {p : Nat → Bool} {f : Nat → Nat} {n i : Nat} (h : i < n) (hp : p (f i) = true) : upTo p f n i = upTo p f n (i + 1) := by
  rw [upTo, if_pos ⟨h, hp⟩]
theorem upTo_off {p : Nat → Bool} {f : Nat → Nat} {n i : Nat} (h : ¬ (i < n ∧ p (f i) = true)) : upTo p f n i = i := by
  rw [upTo, if_neg h]
theorem upTo_ge (p : Nat → Bool) (f : Nat → Nat) (n i : Nat) : i ≤ upTo p f n i := by
  by_cases h : i < n ∧ p (f i) = true
  · rw [upTo_on h.1 h.2]; have := upTo_ge p f n (i + 1); omega
  · rw [upTo_off h]; exact Nat.le_refl _
termination_by n - i
theorem upTo_le (p : Nat → Bool) (f : Nat → Nat) (n i : Nat) (hi : i ≤ n) : upTo p f n i ≤ n := by
  by_cases h : i < n ∧ p (f i) = true
  · rw [upTo_on h.1 h.2]; exact upTo_le p f n (i + 1) (by omega)
  · rw [upTo_off h]; exact hi
termination_by n - i
theorem upTo_all (p : Nat → Bool) (f : Nat → Nat) (n i j : Nat) (hj : i ≤ j) (h' : j < upTo p f n i) : p (f j) = true := by
  by_cases h : i < n ∧ p (f i) = true
  · rw [upTo_on h.1 h.2] at h'
    by_cases e : j = i
    · rw [e]; exact h.2
    · exact upTo_all p f n (i + 1) j (by omega) h'
  · rw [upTo_off h] at h'; omega
termination_by n - i
theorem upTo_end (p : Nat → Bool) (f : Nat → Nat) (n i : Nat) (h' : upTo p f n i < n) : p (f (upTo p f n i)) = false := by
  by_cases h : i < n ∧ p (f i) = true
  · rw [upTo_on h.1 h.2] at h' ⊢; exact upTo_end p f n (i + 1) h'
  · rw [upTo_off h] at h' ⊢
    cases hp : p (f i)
    · rfl
    · exact absurd ⟨h', hp⟩ h
termination_by n - i
theorem upTo_is {p : Nat → Bool} {f : Nat → Nat} {n i k : Nat} (hi : i ≤ k) (hk : k ≤ n) (ha : ∀ j, i ≤ j → j < k → p (f j) = true) (he : ¬ (k < n ∧ p (f k) = true)) : upTo p f n i = k := by
  by_cases e : i = k
  · subst e; exact upTo_off he
  · rw [upTo_on (by omega) (ha i (Nat.le_refl _) (by omega))]
    exact upTo_is (by omega) hk (fun j h1 h2 => ha j (by omega) h2) he
termination_by k - i

/-- The place behind blanks and remarks. -/
def skipF (f : Nat → Nat) (n i : Nat) : Nat :=
  if h : i < n then
    if f i = 35 then skipF f n (upTo linB f n (i + 1))
    else if blaB (f i) = true then skipF f n (i + 1)
    else i
  else i
termination_by n - i
decreasing_by
  · have := upTo_ge linB f n (i + 1); omega
  · omega
theorem skip_remark {f : Nat → Nat} {n i : Nat} (h : i < n) (hf : f i = 35) : skipF f n i = skipF f n (upTo linB f n (i + 1)) := by
  rw [skipF, dif_pos h, if_pos hf]
theorem skip_blank {f : Nat → Nat} {n i : Nat} (h : i < n) (hf : blaB (f i) = true) : skipF f n i = skipF f n (i + 1) := by
  rw [skipF, dif_pos h, if_neg (fun g => by rw [g] at hf; cases hf), if_pos hf]
theorem skip_end {f : Nat → Nat} {n i : Nat} (h : ¬ i < n) : skipF f n i = i := by
  rw [skipF, dif_neg h]
theorem skip_stop {f : Nat → Nat} {n i : Nat} (h1 : ¬ f i = 35) (h2 : blaB (f i) = false) : skipF f n i = i := by
  rw [skipF]
  by_cases h : i < n
  · rw [dif_pos h, if_neg h1, if_neg (by rw [h2]; decide)]
  · rw [dif_neg h]
theorem skip_ge (f : Nat → Nat) (n i : Nat) : i ≤ skipF f n i := by
  rw [skipF]
  by_cases h : i < n
  · rw [dif_pos h]
    split
    · have h1 := upTo_ge linB f n (i + 1)
      have := skip_ge f n (upTo linB f n (i + 1))
      omega
    · split
      · have := skip_ge f n (i + 1); omega
      · exact Nat.le_refl _
  · rw [dif_neg h]; exact Nat.le_refl _
termination_by n - i
theorem skip_le (f : Nat → Nat) (n i : Nat) (hi : i ≤ n) : skipF f n i ≤ n := by
  rw [skipF]
  by_cases h : i < n
  · rw [dif_pos h]
    split
    · have h1 := upTo_ge linB f n (i + 1)
      have h2 := upTo_le linB f n (i + 1) (by omega)
      exact skip_le f n _ h2
    · split
      · exact skip_le f n (i + 1) (by omega)
      · exact hi
  · rw [dif_neg h]; exact hi
termination_by n - i
/-- The value of k digits from place i on. -/
def valF (b : Nat) (d : Nat → Nat) (f : Nat → Nat) (i : Nat) : Nat → Nat
  | 0 => 0
  | k + 1 => valF b d f i k * b + d (f (i + k))
def hexN (c : Nat) : Nat := if c ≤ 57 then c - 48 else c - 87
def decN (c : Nat) : Nat := c - 48
theorem val_mono (b : Nat) (d f : Nat → Nat) (i : Nat) (hb : 1 ≤ b) : ∀ k, valF b d f i k ≤ valF b d f i (k + 1) := fun k => by
  show valF b d f i k ≤ valF b d f i k * b + d (f (i + k))
  have := Nat.mul_le_mul_left (valF b d f i k) hb
  omega
theorem val_le (b : Nat) (d f : Nat → Nat) (i : Nat) (hb : 1 ≤ b) (k : Nat) : ∀ m, valF b d f i k ≤ valF b d f i (k + m)
  | 0 => Nat.le_refl _
  | m + 1 => Nat.le_trans (val_le b d f i hb k m) (val_mono b d f i hb (k + m))
theorem val_lt (b : Nat) (d f : Nat → Nat) (i : Nat) : ∀ k, (∀ j, j < k → d (f (i + j)) < b) → valF b d f i k < b ^ k
  | 0, _ => by simp [valF]
  | k + 1, h => by
    have h1 := val_lt b d f i k (fun j hj => h j (by omega))
    have h2 := h k (by omega)
    show valF b d f i k * b + d (f (i + k)) < b ^ (k + 1)
    have h3 := Nat.mul_le_mul_right b (show valF b d f i k + 1 ≤ b ^ k from h1)
    rw [Nat.pow_succ]
    rw [Nat.add_mul] at h3
    omega
theorem val_congr (b : Nat) (d : Nat → Nat) {f g : Nat → Nat} (i : Nat) : ∀ k, (∀ j, j < k → f (i + j) = g (i + j)) → valF b d f i k = valF b d g i k
  | 0, _ => rfl
  | k + 1, h => by
    show valF b d f i k * b + d (f (i + k)) = valF b d g i k * b + d (g (i + k))
    rw [val_congr b d i k (fun j hj => h j (by omega)), h k (by omega)]
/-- The number that n bytes are, if they are one. -/
def numF (f : Nat → Nat) (n : Nat) : Option Nat :=
  if 2 ≤ n ∧ f 0 = 48 ∧ f 1 = 120 then
    if n < 3 ∨ 18 < n ∨ upTo hexB f n 2 ≠ n then none else some (valF 16 hexN f 2 (n - 2))
  else if n < 1 ∨ 20 < n ∨ (f 0 = 48 ∧ 1 < n) ∨ upTo digB f n 0 ≠ n ∨ 18446744073709551616 ≤ valF 10 decN f 0 n then none
  else some (valF 10 decN f 0 n)
def numV (f : Nat → Nat) (n : Nat) : Nat := (numF f n).getD 0
def numB (f : Nat → Nat) (n : Nat) : Bool := (numF f n).isSome
/-- Are n bytes a word? -/
def worOK (f : Nat → Nat) (n : Nat) : Bool := decide (1 ≤ n ∧ n ≤ 32 ∧ letB (f 0) = true ∧ upTo worB f n 0 = n)
/-- How many bytes the sign at place i has; 0: none. -/
def sigF (f : Nat → Nat) (n i : Nat) : Nat :=
  if f i = 59 ∨ f i = 44 ∨ f i = 40 ∨ f i = 41 ∨ f i = 38 then 1
  else if f i = 60 ∨ f i = 62 then (if i + 1 < n ∧ f (i + 1) = 61 then 2 else 1)
  else if f i = 61 ∨ f i = 33 then (if i + 1 < n ∧ f (i + 1) = 61 then 2 else 0)
  else 0
/-- What stands at a place: the token, the place behind it, the error. -/
structure Nx where
  kind : Int
  text : ByteArray
  num : Nat
  pos : Nat
  next : Nat
  err : Int
def Nx.fail (i : Nat) (e : Int) : Nx := ⟨0, ⟨#[]⟩, 0, 0, i, e⟩
/-- .. where no blank is. -/
def tokF (s : ByteArray) (i : Nat) : Nx :=
  if i = s.size then ⟨1, ⟨#[]⟩, 0, i, i, 0⟩
  else if letB (byt s i) = true then
    if 32 < upTo worB (byt s) s.size i - i then Nx.fail i 52
    else ⟨2, s.extract i (upTo worB (byt s) s.size i), 0, i, upTo worB (byt s) s.size i, 0⟩
  else if digB (byt s i) = true then
    if numB (byt (s.extract i (upTo worB (byt s) s.size i))) (upTo worB (byt s) s.size i - i) = false then Nx.fail i 53
    else ⟨3, s.extract i (upTo worB (byt s) s.size i), numV (byt (s.extract i (upTo worB (byt s) s.size i))) (upTo worB (byt s) s.size i - i), i, upTo worB (byt s) s.size i, 0⟩
  else if sigF (byt s) s.size i = 0 then Nx.fail i 51
  else ⟨4, s.extract i (i + sigF (byt s) s.size i), 0, i, i + sigF (byt s) s.size i, 0⟩
def nextF (s : ByteArray) (p : Int) : Nx :=
  if 65536 < s.size then Nx.fail 0 54
  else if p < 0 ∨ (s.size : Int) < p then Nx.fail 0 1
  else tokF s (skipF (byt s) s.size p.toNat)
theorem sig_le {f : Nat → Nat} {n i : Nat} (h : i < n) : i + sigF f n i ≤ n := by
  unfold sigF; split
  · omega
  · split
    · split <;> omega
    · split
      · split <;> omega
      · omega
/-- A token that is no end begins behind the place, and ends behind where it begins. -/
theorem tok_goes {s : ByteArray} {i : Nat} (hi : i ≤ s.size) (he : (tokF s i).err = 0) (hk : (tokF s i).kind ≠ 1) : i < (tokF s i).next ∧ (tokF s i).next ≤ s.size ∧ (tokF s i).pos = i ∧ (tokF s i).text = s.extract i (tokF s i).next := by
  unfold tokF at he hk ⊢
  by_cases h0 : i = s.size
  · rw [if_pos h0] at hk; exact absurd rfl hk
  rw [if_neg h0] at he hk ⊢
  have hlt : i < s.size := by omega
  have hle := upTo_le worB (byt s) s.size i hi
  have hge : worB (byt s i) = true → i < upTo worB (byt s) s.size i := fun h => by
    rw [upTo_on hlt h]; have := upTo_ge worB (byt s) s.size (i + 1); omega
  by_cases h1 : letB (byt s i) = true
  · rw [if_pos h1] at he hk ⊢
    have := hge (by unfold worB; rw [h1]; rfl)
    by_cases h2 : 32 < upTo worB (byt s) s.size i - i
    · rw [if_pos h2] at he; cases he
    · rw [if_neg h2]; exact ⟨this, hle, rfl, rfl⟩
  rw [if_neg h1] at he hk ⊢
  by_cases h3 : digB (byt s i) = true
  · rw [if_pos h3] at he hk ⊢
    have := hge (by unfold worB; rw [h3]; simp)
    split at he
    · cases he
    · rename_i h4
      rw [if_neg h4]; exact ⟨this, hle, rfl, rfl⟩
  rw [if_neg h3] at he hk ⊢
  by_cases h5 : sigF (byt s) s.size i = 0
  · rw [if_pos h5] at he; cases he
  · rw [if_neg h5]
    exact ⟨by show i < i + _; omega, sig_le hlt, rfl, rfl⟩
theorem next_in {s : ByteArray} {i : Nat} (hs : s.size ≤ 65536) (hi : i ≤ s.size) : nextF s (i : Int) = tokF s (skipF (byt s) s.size i) := by
  unfold nextF
  rw [if_neg (by omega), if_neg (by omega)]; rfl
theorem next_goes {s : ByteArray} {i : Nat} (hs : s.size ≤ 65536) (hi : i ≤ s.size) (he : (nextF s (i : Int)).err = 0) (hk : (nextF s (i : Int)).kind ≠ 1) :
    i < (nextF s (i : Int)).next ∧ (nextF s (i : Int)).next ≤ s.size := by
  rw [next_in hs hi] at he hk ⊢
  have := tok_goes (skip_le (byt s) s.size i hi) he hk
  have hg := skip_ge (byt s) s.size i
  exact ⟨by omega, this.2.1⟩
/-- All tokens from a place on, with so much fuel; the error, and its place. -/
def toksN (s : ByteArray) : Nat → Nat → List Nx × Int × Nat
  | 0, _ => ([], 0, 0)
  | k + 1, i =>
    if (nextF s (i : Int)).err ≠ 0 then ([], (nextF s (i : Int)).err, (nextF s (i : Int)).next)
    else if (nextF s (i : Int)).kind = 1 then ([nextF s (i : Int)], 0, 0)
    else (nextF s (i : Int) :: (toksN s k (nextF s (i : Int)).next).1, (toksN s k (nextF s (i : Int)).next).2)
def toksF (s : ByteArray) : List Nx × Int × Nat := toksN s (s.size + 1) 0
end Go.Proofs.YtgeapkjegemkeaaGreatDoor
