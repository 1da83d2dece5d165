/-
  What a program of classic BPF becomes as a program of registers, as a plain function: it is right, its constants are the program's, and it answers what the program answers. No condition: nothing here speaks of a program of Go's.
-/
import Derived.Test.YtoajommeiocfpaaGreatCheckSpec
import Derived.Test.YtoajommeiocfpaaGreatMirPure
namespace Go.Proofs.YtoajommeiocfpaaGreat
open Go
set_option linter.unusedSimpArgs false
set_option linter.unusedVariables false

abbrev irC (d : Int) (k : BitVec 32) : Irx := ⟨1, d, 0, 0, k, 0, 0⟩
abbrev irMv (d a : Int) : Irx := ⟨2, d, a, 0, 0#32, 0, 0⟩
abbrev irRet (a : Int) : Irx := ⟨19, 0, a, 0, 0#32, 0, 0⟩
/-- The operation of two registers that an operation of numbers becomes; that of a jump. -/
def numOpN (c : Int) : Int :=
  if opN c = 0 then 4 else if opN c = 16 then 5 else if opN c = 32 then 6 else if opN c = 48 then 7 else if opN c = 64 then 9 else if opN c = 80 then 8 else if opN c = 96 then 11 else if opN c = 112 then 12 else 10
def testOpN (c : Int) : Int := if opN c = 16 then 15 else if opN c = 32 then 16 else if opN c = 48 then 17 else 18
/-- What one instruction becomes: at place i, the first of it at place b; beg tells where what is made of each begins. -/
def transI (beg : Nat → Nat) (x : Ins) (i b : Nat) : List Irx :=
  if x.code = 60 then [irC 2 0#32, ⟨15, 0, 1, 2, 0#32, (b : Int) + 2, (b : Int) + 3⟩, irRet 2, ⟨7, 0, 0, 1, 0#32, 0, 0⟩]
  else if aluC x.code = true then (if usesX x.code = true then [⟨numOpN x.code, 0, 0, 1, 0#32, 0, 0⟩] else [irC 2 x.k, ⟨numOpN x.code, 0, 0, 2, 0#32, 0, 0⟩])
  else if jumpC x.code = true then (if usesX x.code = true then [⟨testOpN x.code, 0, 0, 1, 0#32, (beg (i + 1 + x.jt) : Int), (beg (i + 1 + x.jf) : Int)⟩] else [irC 2 x.k, ⟨testOpN x.code, 0, 0, 2, 0#32, (beg (i + 1 + x.jt) : Int), (beg (i + 1 + x.jf) : Int)⟩])
  else if x.code = 32 then [⟨3, 0, 0, 0, x.k, 0, 0⟩]
  else if x.code = 128 then [irC 0 64#32]
  else if x.code = 129 then [irC 1 64#32]
  else if x.code = 0 then [irC 0 x.k]
  else if x.code = 1 then [irC 1 x.k]
  else if x.code = 96 then [irMv 0 (3 + x.k.toNat)]
  else if x.code = 97 then [irMv 1 (3 + x.k.toNat)]
  else if x.code = 2 then [irMv (3 + x.k.toNat) 0]
  else if x.code = 3 then [irMv (3 + x.k.toNat) 1]
  else if x.code = 132 then [⟨13, 0, 0, 0, 0#32, 0, 0⟩]
  else if x.code = 5 then [⟨14, 0, 0, 0, 0#32, (beg (i + 1 + x.k.toNat) : Int), 0⟩]
  else if x.code = 6 then [irC 2 x.k, irRet 2]
  else if x.code = 22 then [irRet 0]
  else if x.code = 7 then [irMv 1 0]
  else [irMv 0 1]
def lenT (x : Ins) : Nat := (transI (fun _ => 0) x 0 0).length
theorem trans_len (beg : Nat → Nat) (x : Ins) (i b : Nat) : (transI beg x i b).length = lenT x := by
  unfold lenT transI
  simp only [apply_ite List.length, List.length_cons, List.length_nil]
theorem ite_len {c : Prop} [Decidable c] {a b : List Irx} (ha : 1 ≤ a.length ∧ a.length ≤ 4) (hb : 1 ≤ b.length ∧ b.length ≤ 4) : 1 ≤ (if c then a else b).length ∧ (if c then a else b).length ≤ 4 := by
  by_cases h : c
  · rw [if_pos h]; exact ha
  · rw [if_neg h]; exact hb
theorem len_pos (x : Ins) : 1 ≤ lenT x ∧ lenT x ≤ 4 := by
  unfold lenT transI
  repeat' (first | refine ite_len ?_ ?_ | exact ⟨by simp, by simp⟩)
/-- Where what is made of an instruction begins. -/
def begN (q : Nat → Ins) : Nat → Nat
  | 0 => 0
  | i + 1 => begN q i + lenT (q i)
theorem beg_up (q : Nat → Ins) {i j : Nat} (h : i ≤ j) : begN q i + (j - i) ≤ begN q j := by
  induction j with
  | zero => obtain rfl : i = 0 := by omega
            exact Nat.le_refl _
  | succ j ih =>
    rcases Nat.lt_or_ge j i with g | g
    · obtain rfl : i = j + 1 := by omega
      rw [Nat.sub_self]; exact Nat.le_refl _
    · have := ih g
      have := (len_pos (q j)).1
      show _ ≤ begN q j + lenT (q j)
      omega
theorem beg_most (q : Nat → Ins) : ∀ n, begN q n ≤ 4 * n
  | 0 => Nat.le_refl _
  | n + 1 => by
    have := beg_most q n
    have := (len_pos (q n)).2
    show begN q n + lenT (q n) ≤ _
    omega
/-- All that is made of the first instructions. -/
def listT (q : Nat → Ins) (beg : Nat → Nat) : Nat → List Irx
  | 0 => []
  | i + 1 => listT q beg i ++ transI beg (q i) i (begN q i)
theorem list_len (q : Nat → Ins) (beg : Nat → Nat) : ∀ n, (listT q beg n).length = begN q n
  | 0 => rfl
  | n + 1 => by rw [listT, List.length_append, list_len q beg n, trans_len]; rfl
theorem list_at (q : Nat → Ins) (beg : Nat → Nat) {i j : Nat} (hj : j < lenT (q i)) : ∀ {n : Nat}, i < n → (listT q beg n)[begN q i + j]? = (transI beg (q i) i (begN q i))[j]?
  | 0, h => absurd h (by omega)
  | n + 1, h => by
    rw [listT]
    rcases Nat.lt_or_ge i n with g | g
    · rw [List.getElem?_append_left (by
        rw [list_len]
        have := beg_up q (i := i + 1) (j := n) (by omega)
        have : begN q (i + 1) = begN q i + lenT (q i) := rfl
        omega)]
      exact list_at q beg hj g
    · obtain rfl : i = n := by omega
      rw [List.getElem?_append_right (by rw [list_len]; omega), list_len, Nat.add_sub_cancel_left]
/-- Each place of it is of one instruction. -/
theorem beg_find (q : Nat → Ins) : ∀ {n k : Nat}, k < begN q n → ∃ i j, i < n ∧ j < lenT (q i) ∧ k = begN q i + j
  | 0, k, h => absurd h (by show ¬ k < 0; omega)
  | n + 1, k, h => by
    rcases Nat.lt_or_ge k (begN q n) with g | g
    · obtain ⟨i, j, h1, h2, h3⟩ := beg_find q g
      exact ⟨i, j, by omega, h2, h3⟩
    · have : k < begN q n + lenT (q n) := h
      exact ⟨n, k - begN q n, by omega, by omega, by omega⟩
def irZ : Irx := ⟨0, 0, 0, 0, 0#32, 0, 0⟩
/-- The program of registers. -/
def progT (q : Nat → Ins) (n : Nat) (k : Nat) : Irx := (listT q (begN q) n).getD k irZ
theorem progT_at {q : Nat → Ins} {n i j : Nat} (hi : i < n) {x : Irx} (hx : (transI (begN q) (q i) i (begN q i))[j]? = some x) : progT q n (begN q i + j) = x := by
  have hj : j < lenT (q i) := by rw [← trans_len (begN q) (q i) i (begN q i)]; exact (List.getElem?_eq_some_iff.1 hx).1
  unfold progT
  rw [List.getD_eq_getElem?_getD, list_at q _ hj hi, hx]; rfl
/-- May a constant be? -/
def mineC (c : Int) : Bool := decide (c = 6 ∨ c = 0 ∨ c = 1 ∨ (c % 8 = 4 ∧ c / 8 % 2 = 0 ∧ c ≠ 132) ∨ (c % 8 = 5 ∧ c / 8 % 2 = 0 ∧ c ≠ 5))
/-- What is asked of one of them. -/
structure FineT (x : Ins) (N : Nat) (at_ : Nat) (y : Irx) : Prop where
  one : OneMOK 19 N y at_
  const : y.op = 1 → y.k = 0#32 ∨ y.k = 64#32 ∨ (mineC x.code = true ∧ x.k = y.k)
theorem one1 {α : Type} {a y : α} {j : Nat} (h : [a][j]? = some y) : j = 0 ∧ y = a := by
  match j, h with
  | 0, h => exact ⟨rfl, (Option.some.inj h).symm⟩
theorem one2 {α : Type} {a b y : α} {j : Nat} (h : [a, b][j]? = some y) : (j = 0 ∧ y = a) ∨ (j = 1 ∧ y = b) := by
  match j, h with
  | 0, h => exact .inl ⟨rfl, (Option.some.inj h).symm⟩
  | 1, h => exact .inr ⟨rfl, (Option.some.inj h).symm⟩
theorem one4 {α : Type} {a b c d y : α} {j : Nat} (h : [a, b, c, d][j]? = some y) : (j = 0 ∧ y = a) ∨ (j = 1 ∧ y = b) ∨ (j = 2 ∧ y = c) ∨ (j = 3 ∧ y = d) := by
  match j, h with
  | 0, h => exact .inl ⟨rfl, (Option.some.inj h).symm⟩
  | 1, h => exact .inr (.inl ⟨rfl, (Option.some.inj h).symm⟩)
  | 2, h => exact .inr (.inr (.inl ⟨rfl, (Option.some.inj h).symm⟩))
  | 3, h => exact .inr (.inr (.inr ⟨rfl, (Option.some.inj h).symm⟩))
theorem fine_const {x : Ins} {N at_ : Nat} {d : Int} {z : BitVec 32} (hd : 0 ≤ d ∧ d < 19) (hz : z = 0#32 ∨ z = 64#32 ∨ (mineC x.code = true ∧ x.k = z)) : FineT x N at_ (irC d z) :=
  ⟨⟨⟨by show (1 : Int) ≤ 1; decide, by show (1 : Int) ≤ 19; decide⟩, fun _ => hd, fun g => (by cases g), fun g => (by cases g), fun g => (by cases g), fun g => (by cases g), fun g => (by cases g)⟩, fun _ => hz⟩
theorem fine_move {x : Ins} {N at_ : Nat} {d a : Int} (hd : 0 ≤ d ∧ d < 19) (ha : 0 ≤ a ∧ a < 19) : FineT x N at_ (irMv d a) :=
  ⟨⟨⟨by show (1 : Int) ≤ 2; decide, by show (2 : Int) ≤ 19; decide⟩, fun _ => hd, fun _ => ha, fun g => (by cases g), fun g => (by cases g), fun g => (by cases g), fun g => (by cases g)⟩, fun g => (by cases g)⟩
theorem fine_ret {x : Ins} {N at_ : Nat} {a : Int} (ha : 0 ≤ a ∧ a < 19) : FineT x N at_ (irRet a) :=
  ⟨⟨⟨by show (1 : Int) ≤ 19; decide, by show (19 : Int) ≤ 19; decide⟩, fun g => (by cases g), fun _ => ha, fun g => (by cases g), fun g => (by cases g), fun g => (by cases g), fun g => (by cases g)⟩, fun g => (by cases g)⟩
theorem fine_two {x : Ins} {N at_ : Nat} {op b : Int} (h : 4 ≤ op ∧ op ≤ 12) (hb : 0 ≤ b ∧ b < 19) : FineT x N at_ ⟨op, 0, 0, b, 0#32, 0, 0⟩ :=
  ⟨⟨by show 1 ≤ op ∧ op ≤ 19; omega, fun _ => by show (0 : Int) ≤ 0 ∧ (0 : Int) < 19; omega, fun _ => by show (0 : Int) ≤ 0 ∧ (0 : Int) < 19; omega, fun _ => hb, fun (g : op = 3) => by omega, fun (g : tM op = true) => by simp [tM] at g; omega, fun (g : fM op = true) => by simp [fM] at g; omega⟩, fun (g : op = 1) => by omega⟩
theorem fine_if {x : Ins} {N at_ : Nat} {op b t f : Int} {a : Int} (h : 15 ≤ op ∧ op ≤ 18) (ha : 0 ≤ a ∧ a < 19) (hb : 0 ≤ b ∧ b < 19) (ht : (at_ : Int) < t ∧ t < N) (hf : (at_ : Int) < f ∧ f < N) : FineT x N at_ ⟨op, 0, a, b, 0#32, t, f⟩ :=
  ⟨⟨by show 1 ≤ op ∧ op ≤ 19; omega, fun _ => by show (0 : Int) ≤ 0 ∧ (0 : Int) < 19; omega, fun _ => ha, fun _ => hb, fun (g : op = 3) => by omega, fun _ => ht, fun _ => hf⟩, fun (g : op = 1) => by omega⟩
theorem numOp_in (c : Int) : 4 ≤ numOpN c ∧ numOpN c ≤ 12 := by
  unfold numOpN
  repeat' split
  all_goals omega
theorem testOp_in (c : Int) : 15 ≤ testOpN c ∧ testOpN c ≤ 18 := by
  unfold testOpN
  repeat' split
  all_goals omega
theorem mine_alu {c : Int} (h : aluC c = true) (hu : ¬ usesX c = true) : mineC c = true := by
  rcases alu_cases h with rfl | rfl | rfl | rfl | rfl | rfl | rfl | rfl | rfl | rfl | rfl | rfl | rfl | rfl | rfl | rfl | rfl | rfl <;> first | rfl | exact absurd rfl hu
theorem mine_jump {c : Int} (h : jumpC c = true) (hu : ¬ usesX c = true) : mineC c = true := by
  rcases jump_cases h with rfl | rfl | rfl | rfl | rfl | rfl | rfl | rfl <;> first | rfl | exact absurd rfl hu
set_option maxHeartbeats 1000000 in
theorem fine_of {x : Ins} {beg : Nat → Nat} {N i b j left : Nat} (ho : OneOK x left) (hs3 : aluC x.code = true ∨ (aluC x.code = false ∧ jumpC x.code = true) ∨ (aluC x.code = false ∧ jumpC x.code = false ∧ restC x.code = true))
    (hgo : ∀ k, k < left → b + lenT x ≤ beg (i + 1 + k) ∧ beg (i + 1 + k) < N) (hb : b + lenT x ≤ N) {y : Irx} (hy : (transI beg x i b)[j]? = some y) : FineT x N (b + j) y := by
  have hlen : (transI beg x i b).length = lenT x := trans_len _ _ _ _
  have hjl : j < lenT x := by rw [← hlen]; exact (List.getElem?_eq_some_iff.1 hy).1
  have hja := ho.ja
  have hjj := ho.jump
  have hld := ho.load
  have hsc := ho.scratch
  obtain ⟨c, jt, jf, k⟩ := x
  simp only at hja hjj hld hsc hs3
  by_cases h60 : c = 60
  · subst h60
    have hl4 : lenT ⟨60, jt, jf, k⟩ = 4 := rfl
    rw [hl4] at hb hgo
    rcases one4 hy with ⟨rfl, rfl⟩ | ⟨rfl, rfl⟩ | ⟨rfl, rfl⟩ | ⟨rfl, rfl⟩
    · exact fine_const (by decide) (.inl rfl)
    · exact fine_if (by decide) (by decide) (by decide) (by omega) (by omega)
    · exact fine_ret (by decide)
    · exact fine_two (by decide) (by decide)
  unfold transI at hy
  simp only at hy
  rw [if_neg h60] at hy
  rcases hs3 with ha | ⟨ha, hj⟩ | ⟨ha, hj, hr⟩
  · rw [if_pos ha] at hy
    by_cases hu : usesX c = true
    · rw [if_pos hu] at hy
      obtain ⟨rfl, rfl⟩ := one1 hy
      exact fine_two (numOp_in c) (by decide)
    · rw [if_neg hu] at hy
      rcases one2 hy with ⟨rfl, rfl⟩ | ⟨rfl, rfl⟩
      · exact fine_const (by decide) (.inr (.inr ⟨mine_alu ha hu, rfl⟩))
      · exact fine_two (numOp_in c) (by decide)
  · rw [if_neg (by rw [ha]; decide), if_pos hj] at hy
    have g := hjj hj
    have g1 := hgo jt g.1
    have g2 := hgo jf g.2
    by_cases hu : usesX c = true
    · rw [if_pos hu] at hy
      obtain ⟨rfl, rfl⟩ := one1 hy
      exact fine_if (testOp_in c) (by decide) (by decide) (by omega) (by omega)
    · rw [if_neg hu] at hy
      rcases one2 hy with ⟨rfl, rfl⟩ | ⟨rfl, rfl⟩
      · exact fine_const (by decide) (.inr (.inr ⟨mine_jump hj hu, rfl⟩))
      · exact fine_if (testOp_in c) (by decide) (by decide) (by omega) (by omega)
  · rw [if_neg (by rw [ha]; decide), if_neg (by rw [hj]; decide)] at hy
    rcases rest_cases hr with rfl | rfl | rfl | rfl | rfl | rfl | rfl | rfl | rfl | rfl | rfl | rfl | rfl | rfl | rfl
    · obtain ⟨rfl, rfl⟩ := one1 hy
      have g := hld rfl
      exact ⟨⟨⟨by show (1 : Int) ≤ 3; decide, by show (3 : Int) ≤ 19; decide⟩, fun _ => by show (0 : Int) ≤ 0 ∧ (0 : Int) < 19; decide, fun g => (by cases g), fun g => (by cases g), fun _ => g, fun g => (by cases g), fun g => (by cases g)⟩, fun g => (by cases g)⟩
    · obtain ⟨rfl, rfl⟩ := one1 hy
      exact fine_const (by decide) (.inr (.inl rfl))
    · obtain ⟨rfl, rfl⟩ := one1 hy
      exact fine_const (by decide) (.inr (.inl rfl))
    · obtain ⟨rfl, rfl⟩ := one1 hy
      exact fine_const (by decide) (.inr (.inr ⟨rfl, rfl⟩))
    · obtain ⟨rfl, rfl⟩ := one1 hy
      exact fine_const (by decide) (.inr (.inr ⟨rfl, rfl⟩))
    · obtain ⟨rfl, rfl⟩ := one1 hy
      have g := hsc (by decide)
      exact fine_move (by decide) (by omega)
    · obtain ⟨rfl, rfl⟩ := one1 hy
      have g := hsc (by decide)
      exact fine_move (by decide) (by omega)
    · obtain ⟨rfl, rfl⟩ := one1 hy
      have g := hsc (by decide)
      exact fine_move (by omega) (by decide)
    · obtain ⟨rfl, rfl⟩ := one1 hy
      have g := hsc (by decide)
      exact fine_move (by omega) (by decide)
    · obtain ⟨rfl, rfl⟩ := one1 hy
      exact ⟨⟨⟨by show (1 : Int) ≤ 13; decide, by show (13 : Int) ≤ 19; decide⟩, fun _ => by show (0 : Int) ≤ 0 ∧ (0 : Int) < 19; decide, fun _ => by show (0 : Int) ≤ 0 ∧ (0 : Int) < 19; decide, fun g => (by cases g), fun g => (by cases g), fun g => (by cases g), fun g => (by cases g)⟩, fun g => (by cases g)⟩
    · obtain ⟨rfl, rfl⟩ := one1 hy
      have g1 := hgo _ (hja rfl)
      exact ⟨⟨⟨by show (1 : Int) ≤ 14; decide, by show (14 : Int) ≤ 19; decide⟩, fun g => (by cases g), fun g => (by cases g), fun g => (by cases g), fun g => (by cases g), fun _ => by show ((b + 0 : Nat) : Int) < (beg (i + 1 + k.toNat) : Int) ∧ (beg (i + 1 + k.toNat) : Int) < (N : Int); omega, fun g => (by cases g)⟩, fun g => (by cases g)⟩
    · rcases one2 hy with ⟨rfl, rfl⟩ | ⟨rfl, rfl⟩
      · exact fine_const (by decide) (.inr (.inr ⟨rfl, rfl⟩))
      · exact fine_ret (by decide)
    · obtain ⟨rfl, rfl⟩ := one1 hy
      exact fine_ret (by decide)
    · obtain ⟨rfl, rfl⟩ := one1 hy
      exact fine_move (by decide) (by decide)
    · obtain ⟨rfl, rfl⟩ := one1 hy
      exact fine_move (by decide) (by decide)
theorem fine_trans {q : Nat → Ins} {n : Nat} (h : Accepted q n) {i j : Nat} (hi : i < n) {y : Irx} (hy : (transI (begN q) (q i) i (begN q i))[j]? = some y) : FineT (q i) (begN q n) (begN q i + j) y := by
  have ho := one_ok.1 (h.all _ hi)
  have hnext : begN q (i + 1) = begN q i + lenT (q i) := rfl
  have htop := beg_up q (i := i + 1) (j := n) (by omega)
  refine fine_of ho (seals_three (k := (q i).k) ho.wrong) (fun k hk => ?_) (by omega) hy
  have h1 := beg_up q (i := i + 1) (j := i + 1 + k) (by omega)
  have h2 := beg_up q (i := i + 1 + k) (j := n) (by omega)
  omega
/-- What is made is right. -/
theorem right_T {q : Nat → Ins} {n : Nat} (h : Accepted q n) : RightM 19 (progT q n) (begN q n) := by
  have hp := h.pos
  have hm := h.max
  have hb := beg_most q n
  have hu := beg_up q (i := 0) (j := n) (by omega)
  have hu0 : begN q 0 = 0 := rfl
  refine ⟨by decide, by omega, by omega, fun k hk => ?_, ?_⟩
  · obtain ⟨i, j, h1, h2, rfl⟩ := beg_find q hk
    have hlt : j < (transI (begN q) (q i) i (begN q i)).length := by rw [trans_len]; exact h2
    have hy := List.getElem?_eq_getElem hlt
    rw [progT_at h1 hy]
    exact oneM_ok.2 (fine_trans h h1 hy).one
  · have hn : begN q n = begN q (n - 1) + lenT (q (n - 1)) := by
      obtain ⟨m, rfl⟩ : ∃ m, n = m + 1 := ⟨n - 1, by omega⟩
      rfl
    have hl := h.last
    have hx : ∀ (x : Ins), q (n - 1) = x → isRet x.code → (progT q n (begN q n - 1)).op = 19 := fun x hx hr => by
      obtain ⟨c, jt, jf, k⟩ := x
      rw [hn, hx]
      rcases hr with rfl | rfl
      · rw [show begN q (n - 1) + lenT ⟨6, jt, jf, k⟩ - 1 = begN q (n - 1) + 1 from rfl, progT_at (q := q) (n := n) (i := n - 1) (j := 1) (by omega) (x := irRet 2) (by rw [hx]; rfl)]
      · rw [show begN q (n - 1) + lenT ⟨22, jt, jf, k⟩ - 1 = begN q (n - 1) + 0 from rfl, progT_at (q := q) (n := n) (i := n - 1) (j := 0) (by omega) (x := irRet 0) (by rw [hx]; rfl)]
    exact hx _ rfl hl
/-! ### It answers the same -/
section
variable (h : Nat → Nat) (word : Nat → BitVec 32) (at_ : Nat) (r : Nat → BitVec 32)
theorem sx_const (d : Int) (k : BitVec 32) : stepX (irC d k) h word at_ r = .on (at_ + 1) (upd r (h d.toNat) k) := by
  simp [stepX, dM, aM, bM, tM, fM, valM]
theorem sx_move (d a : Int) : stepX (irMv d a) h word at_ r = .on (at_ + 1) (upd r (h d.toNat) (r (h a.toNat))) := by
  simp [stepX, dM, aM, bM, tM, fM, valM]
theorem sx_load (d : Int) (k : BitVec 32) : stepX ⟨3, d, 0, 0, k, 0, 0⟩ h word at_ r = .on (at_ + 1) (upd r (h d.toNat) (word k.toNat)) := by
  simp [stepX, dM, aM, bM, tM, fM, valM]
theorem sx_neg (d a : Int) : stepX ⟨13, d, a, 0, 0#32, 0, 0⟩ h word at_ r = .on (at_ + 1) (upd r (h d.toNat) (-(r (h a.toNat)))) := by
  simp [stepX, dM, aM, bM, tM, fM, valM]
theorem sx_ret (a : Int) : stepX (irRet a) h word at_ r = .stop ⟨r (h a.toNat), 1, 0, 0⟩ := by
  simp [stepX, dM, aM, bM, tM, fM, valM]
theorem sx_jump (t : Int) : stepX ⟨14, 0, 0, 0, 0#32, t, 0⟩ h word at_ r = .on t.toNat r := by
  simp [stepX, dM, aM, bM, tM, fM, valM]
theorem sx_if (op a b t f : Int) (ho : 15 ≤ op ∧ op ≤ 18) : stepX ⟨op, 0, a, b, 0#32, t, f⟩ h word at_ r = .on (if saysM op (r (h a.toNat)) (r (h b.toNat)) = true then t.toNat else f.toNat) r := by
  have h1 : aM op = true := by simp [aM]; omega
  have h2 : bM op = true := by simp [bM]; omega
  have h3 : fM op = true := by simp [fM]; omega
  have h4 : dM op = false := by simp [dM]; omega
  unfold stepX
  simp only [h1, h2, h3, h4, if_true, Bool.false_eq_true, if_false]
  rw [if_neg (by omega), if_neg (by omega), if_neg (by omega)]
theorem sx_two (op d a b : Int) (ho : 4 ≤ op ∧ op ≤ 12) (h7 : op = 7 → r (h b.toNat) ≠ 0#32) : stepX ⟨op, d, a, b, 0#32, 0, 0⟩ h word at_ r = .on (at_ + 1) (upd r (h d.toNat) (valM word ⟨op, d, a, b, 0#32, 0, 0⟩ (r (h a.toNat)) (r (h b.toNat)))) := by
  have h1 : aM op = true := by simp [aM]; omega
  have h2 : bM op = true := by simp [bM]; omega
  have h3 : fM op = false := by simp [fM]; omega
  have h4 : dM op = true := by simp [dM]; omega
  unfold stepX
  simp only [h1, h2, h3, h4, if_true, Bool.false_eq_true, if_false]
  rw [if_neg (by omega), if_neg (fun g => h7 g.1 g.2), if_neg (by omega)]
end
theorem val_num {c : Int} (h : aluC c = true) (word : Nat → BitVec 32) (d a b : Int) (u v : BitVec 32) : valM word ⟨numOpN c, d, a, b, 0#32, 0, 0⟩ u v = twoN (opN c) u v := by
  rcases alu_cases h with rfl | rfl | rfl | rfl | rfl | rfl | rfl | rfl | rfl | rfl | rfl | rfl | rfl | rfl | rfl | rfl | rfl | rfl <;> rfl
theorem says_test {c : Int} (h : jumpC c = true) (u v : BitVec 32) : saysM (testOpN c) u v = saysN (opN c) u v := by
  rcases jump_cases h with rfl | rfl | rfl | rfl | rfl | rfl | rfl | rfl <;> rfl
theorem num_div {c : Int} (h : aluC c = true) (h60 : c ≠ 60) (h7 : numOpN c = 7) : c = 52 := by
  rcases alu_cases h with rfl | rfl | rfl | rfl | rfl | rfl | rfl | rfl | rfl | rfl | rfl | rfl | rfl | rfl | rfl | rfl | rfl | rfl <;> first | rfl | exact absurd rfl h60 | exact absurd h7 (by decide)
/-- Registers as a machine's words. -/
structure RelT (r : Nat → BitVec 32) (s : Mach) : Prop where
  a : r 0 = s.a
  x : r 1 = s.x
  m : ∀ j, j < 16 → r (3 + j) = s.m j
abbrev ansE (s : EndM) : BitVec 32 × Int := (s.ans, s.err)
/-- What a step becomes. -/
inductive SimT (go : Nat → (Nat → BitVec 32) → BitVec 32 × Int) (beg : Nat → Nat) (here : BitVec 32 × Int) (s s' : Mach) : Prop
  | ends (v : BitVec 32) (h1 : s' = s.ends v) (h2 : here = (v, 0))
  | goes (r' : Nat → BitVec 32) (h1 : RelT r' s') (h2 : s'.done = s.done) (h3 : here = go (beg s'.place) r')
theorem upd_at (r : Nat → BitVec 32) (i : Nat) (v : BitVec 32) : upd r i v i = v := if_pos rfl
theorem upd_ne {r : Nat → BitVec 32} {i j : Nat} {v : BitVec 32} (h : j ≠ i) : upd r i v j = r j := if_neg h
theorem RelT.k {r : Nat → BitVec 32} {s : Mach} (h : RelT r s) (v : BitVec 32) : RelT (upd r 2 v) s := ⟨(upd_ne (by decide)).trans h.a, (upd_ne (by decide)).trans h.x, fun j hj => (upd_ne (by omega)).trans (h.m j hj)⟩
theorem RelT.seta {r : Nat → BitVec 32} {s : Mach} (h : RelT r s) (v : BitVec 32) : RelT (upd r 0 v) { s with a := v } := ⟨upd_at _ _ _, (upd_ne (by decide)).trans h.x, fun j hj => (upd_ne (by omega)).trans (h.m j hj)⟩
theorem RelT.setx {r : Nat → BitVec 32} {s : Mach} (h : RelT r s) (v : BitVec 32) : RelT (upd r 1 v) { s with x := v } := ⟨(upd_ne (by decide)).trans h.a, upd_at _ _ _, fun j hj => (upd_ne (by omega)).trans (h.m j hj)⟩
theorem RelT.setm {r : Nat → BitVec 32} {s : Mach} (h : RelT r s) (i : Nat) (v : BitVec 32) : RelT (upd r (3 + i) v) { s with m := fun j => if j = i then v else s.m j } :=
  ⟨(upd_ne (by omega)).trans h.a, (upd_ne (by omega)).trans h.x, fun j hj => by
    show upd r (3 + i) v (3 + j) = if j = i then v else s.m j
    by_cases e : j = i
    · subst e; rw [if_pos rfl, upd_at]
    · rw [if_neg e, upd_ne (by omega), h.m j hj]⟩
theorem RelT.on {r : Nat → BitVec 32} {s : Mach} (h : RelT r s) (k : Nat) : RelT r (s.on k) := ⟨h.a, h.x, h.m⟩
set_option maxHeartbeats 2000000 in
theorem sim_one {x : Ins} {beg : Nat → Nat} {i b left : Nat} (ho : OneOK x left) (hs3 : aluC x.code = true ∨ (aluC x.code = false ∧ jumpC x.code = true) ∨ (aluC x.code = false ∧ jumpC x.code = false ∧ restC x.code = true))
    (word : Nat → BitVec 32) (go : Nat → (Nat → BitVec 32) → BitVec 32 × Int) (hn : beg (i + 1) = b + lenT x)
    (hon : ∀ j y p r r', (transI beg x i b)[j]? = some y → stepX y (fun i => i) word (b + j) r = .on p r' → go (b + j) r = go p r')
    (hend : ∀ j y r e, (transI beg x i b)[j]? = some y → stepX y (fun i => i) word (b + j) r = .stop e → go (b + j) r = ansE e)
    {r : Nat → BitVec 32} {s : Mach} (hR : RelT r s) (hp : s.place = i) : SimT go beg (go b r) s (s.does word x) := by
  subst hp
  have hsc := ho.scratch
  have hdv := ho.div
  obtain ⟨c, jt, jf, k⟩ := x
  simp only at hsc hdv hs3
  by_cases h60 : c = 60
  · subst h60
    have e1 : go b r = go (b + 1) (upd r 2 0#32) := hon 0 _ _ _ _ rfl (sx_const _ _ _ _ _ _)
    have e2 := hon 1 _ _ (upd r 2 0#32) _ rfl (sx_if (fun i => i) word (b + 1) (upd r 2 0#32) 15 1 2 ((b : Int) + 2) ((b : Int) + 3) (by decide))
    have hc : saysM 15 (upd r 2 0#32 (1 : Int).toNat) (upd r 2 0#32 (2 : Int).toNat) = (s.x == 0#32) := by
      show (upd r 2 0#32 1 == upd r 2 0#32 2) = _
      rw [upd_at, upd_ne (by decide), hR.x]
    rw [hc] at e2
    have hdoes : s.does word ⟨60, jt, jf, k⟩ = if s.x = 0#32 then s.ends 0#32 else Mach.on { s with a := s.a / s.x } 1 := by
      unfold Mach.does
      simp [aluC, aluL, usesX, opN, twoN]
    rw [hdoes]
    by_cases hz : s.x = 0#32
    · rw [if_pos hz]
      rw [hz] at e2
      refine .ends 0#32 rfl ?_
      rw [e1, e2]
      have e3 := hend 2 _ (upd r 2 0#32) _ rfl (sx_ret _ _ _ _ _)
      rw [show (if (0#32 == 0#32) = true then ((b : Int) + 2).toNat else ((b : Int) + 3).toNat) = b + 2 by simp; omega, e3]
      show (upd r 2 0#32 2, (0 : Int)) = _
      rw [upd_at]
    · rw [if_neg hz]
      refine .goes _ ((hR.k 0#32).seta (s.a / s.x) |>.on 1) rfl ?_
      rw [e1, e2]
      have hz' : (s.x == 0#32) = false := beq_false_of_ne hz
      rw [hz', show (if false = true then ((b : Int) + 2).toNat else ((b : Int) + 3).toNat) = b + 3 by simp; omega]
      have e4 := hon 3 _ _ (upd r 2 0#32) _ rfl (sx_two (fun i => i) word (b + 3) (upd r 2 0#32) 7 0 0 1 (by decide) (fun _ => by show upd r 2 0#32 1 ≠ _; rw [upd_ne (by decide), hR.x]; exact hz))
      rw [e4]
      have hv : valM word ⟨7, 0, 0, 1, 0#32, 0, 0⟩ (upd r 2 0#32 (0 : Int).toNat) (upd r 2 0#32 (1 : Int).toNat) = s.a / s.x := by
        show upd r 2 0#32 0 / upd r 2 0#32 1 = _
        rw [upd_ne (by decide), upd_ne (by decide), hR.x, hR.a]
      rw [hv]
      show _ = go (beg (s.place + 1)) _
      rw [hn]; rfl
  unfold Mach.does
  simp only
  rcases hs3 with ha | ⟨ha, hj⟩ | ⟨ha, hj, hr⟩
  · rw [if_pos ha, if_neg (fun g => h60 g.1)]
    by_cases hu : usesX c = true
    · have ht : transI beg ⟨c, jt, jf, k⟩ s.place b = [⟨numOpN c, 0, 0, 1, 0#32, 0, 0⟩] := by unfold transI; simp only; rw [if_neg h60, if_pos ha, if_pos hu]
      have hl : lenT ⟨c, jt, jf, k⟩ = 1 := by rw [← trans_len beg _ s.place b, ht]; rfl
      rw [ht] at hon
      rw [if_pos hu]
      refine .goes _ ((hR.seta _).on 1) rfl ?_
      show _ = go (beg (s.place + 1)) _
      rw [hn, hl, ← val_num ha word 0 0 1]
      have := hon 0 _ _ r _ rfl (sx_two (fun i => i) word (b + 0) r (numOpN c) 0 0 1 (numOp_in c) (fun g => by
        have := num_div ha h60 g
        subst this
        cases hu))
      rw [← hR.a, ← hR.x]
      exact this
    · have ht : transI beg ⟨c, jt, jf, k⟩ s.place b = [irC 2 k, ⟨numOpN c, 0, 0, 2, 0#32, 0, 0⟩] := by unfold transI; simp only; rw [if_neg h60, if_pos ha, if_neg hu]
      have hl : lenT ⟨c, jt, jf, k⟩ = 2 := by rw [← trans_len beg _ s.place b, ht]; rfl
      rw [ht] at hon
      rw [if_neg hu]
      have e1 : go b r = go (b + 1) (upd r 2 k) := hon 0 _ _ _ _ rfl (sx_const _ _ _ _ _ _)
      refine .goes _ (((hR.k k).seta _).on 1) rfl ?_
      show _ = go (beg (s.place + 1)) _
      rw [hn, hl, ← val_num ha word 0 0 2, e1]
      have := hon 1 _ _ (upd r 2 k) _ rfl (sx_two (fun i => i) word (b + 1) (upd r 2 k) (numOpN c) 0 0 2 (numOp_in c) (fun g => by
        have := num_div ha h60 g
        show upd r 2 k 2 ≠ _
        rw [upd_at]
        exact hdv this))
      rw [← hR.a]
      rw [this]
      show go (b + 2) (upd (upd r 2 k) 0 (valM word _ (upd r 2 k 0) (upd r 2 k 2))) = _
      rw [upd_at, upd_ne (by decide)]
  · rw [if_neg (by rw [ha]; decide), if_pos hj]
    by_cases hu : usesX c = true
    · have ht : transI beg ⟨c, jt, jf, k⟩ s.place b = [⟨testOpN c, 0, 0, 1, 0#32, (beg (s.place + 1 + jt) : Int), (beg (s.place + 1 + jf) : Int)⟩] := by unfold transI; simp only; rw [if_neg h60, if_neg (by rw [ha]; decide), if_pos hj, if_pos hu]
      rw [ht] at hon
      rw [if_pos hu]
      refine .goes _ (hR.on _) rfl ?_
      have := hon 0 _ _ r _ rfl (sx_if (fun i => i) word (b + 0) r (testOpN c) 0 1 _ _ (testOp_in c))
      rw [says_test hj] at this
      rw [show go b r = go (b + 0) r from rfl, this, show r (0 : Int).toNat = s.a from hR.a, show r (1 : Int).toNat = s.x from hR.x]
      show _ = go (beg (s.place + (1 + _))) r
      split <;> simp only [Int.toNat_natCast, Nat.add_assoc]
    · have ht : transI beg ⟨c, jt, jf, k⟩ s.place b = [irC 2 k, ⟨testOpN c, 0, 0, 2, 0#32, (beg (s.place + 1 + jt) : Int), (beg (s.place + 1 + jf) : Int)⟩] := by unfold transI; simp only; rw [if_neg h60, if_neg (by rw [ha]; decide), if_pos hj, if_neg hu]
      rw [ht] at hon
      rw [if_neg hu]
      have e1 : go b r = go (b + 1) (upd r 2 k) := hon 0 _ _ _ _ rfl (sx_const _ _ _ _ _ _)
      refine .goes _ ((hR.k k).on _) rfl ?_
      have := hon 1 _ _ (upd r 2 k) _ rfl (sx_if (fun i => i) word (b + 1) (upd r 2 k) (testOpN c) 0 2 _ _ (testOp_in c))
      rw [says_test hj] at this
      rw [e1, this, show upd r 2 k (0 : Int).toNat = s.a from (upd_ne (by decide)).trans hR.a, show upd r 2 k (2 : Int).toNat = k from upd_at _ _ _]
      show _ = go (beg (s.place + (1 + _))) _
      split <;> simp only [Int.toNat_natCast, Nat.add_assoc]
  · rw [if_neg (by rw [ha]; decide), if_neg (by rw [hj]; decide)]
    clear h60 ha hj
    rcases rest_cases hr with rfl | rfl | rfl | rfl | rfl | rfl | rfl | rfl | rfl | rfl | rfl | rfl | rfl | rfl | rfl
    · refine .goes _ ((hR.seta (word k.toNat)).on 1) rfl ?_
      show _ = go (beg (s.place + 1)) _
      rw [hn, show lenT _ = 1 from rfl]
      exact hon 0 _ _ r _ rfl (sx_load _ _ _ _ _ _)
    · refine .goes _ ((hR.seta 64#32).on 1) rfl ?_
      show _ = go (beg (s.place + 1)) _
      rw [hn, show lenT _ = 1 from rfl]
      exact hon 0 _ _ r _ rfl (sx_const _ _ _ _ _ _)
    · refine .goes _ ((hR.setx 64#32).on 1) rfl ?_
      show _ = go (beg (s.place + 1)) _
      rw [hn, show lenT _ = 1 from rfl]
      exact hon 0 _ _ r _ rfl (sx_const _ _ _ _ _ _)
    · refine .goes _ ((hR.seta k).on 1) rfl ?_
      show _ = go (beg (s.place + 1)) _
      rw [hn, show lenT _ = 1 from rfl]
      exact hon 0 _ _ r _ rfl (sx_const _ _ _ _ _ _)
    · refine .goes _ ((hR.setx k).on 1) rfl ?_
      show _ = go (beg (s.place + 1)) _
      rw [hn, show lenT _ = 1 from rfl]
      exact hon 0 _ _ r _ rfl (sx_const _ _ _ _ _ _)
    · have g := hsc (by decide)
      refine .goes _ ((hR.seta (s.m k.toNat)).on 1) rfl ?_
      show _ = go (beg (s.place + 1)) _
      rw [hn, show lenT _ = 1 from rfl, ← hR.m _ g]
      have := hon 0 _ _ r _ rfl (sx_move _ _ _ _ 0 (3 + (k.toNat : Int)))
      rw [show (3 + (k.toNat : Int)).toNat = 3 + k.toNat by omega] at this
      exact this
    · have g := hsc (by decide)
      refine .goes _ ((hR.setx (s.m k.toNat)).on 1) rfl ?_
      show _ = go (beg (s.place + 1)) _
      rw [hn, show lenT _ = 1 from rfl, ← hR.m _ g]
      have := hon 0 _ _ r _ rfl (sx_move _ _ _ _ 1 (3 + (k.toNat : Int)))
      rw [show (3 + (k.toNat : Int)).toNat = 3 + k.toNat by omega] at this
      exact this
    · refine .goes _ ((hR.setm k.toNat s.a).on 1) rfl ?_
      show _ = go (beg (s.place + 1)) _
      rw [hn, show lenT _ = 1 from rfl, ← hR.a]
      have := hon 0 _ _ r _ rfl (sx_move _ _ _ _ (3 + (k.toNat : Int)) 0)
      rw [show (3 + (k.toNat : Int)).toNat = 3 + k.toNat by omega] at this
      exact this
    · refine .goes _ ((hR.setm k.toNat s.x).on 1) rfl ?_
      show _ = go (beg (s.place + 1)) _
      rw [hn, show lenT _ = 1 from rfl, ← hR.x]
      have := hon 0 _ _ r _ rfl (sx_move _ _ _ _ (3 + (k.toNat : Int)) 1)
      rw [show (3 + (k.toNat : Int)).toNat = 3 + k.toNat by omega] at this
      exact this
    · refine .goes _ ((hR.seta (-s.a)).on 1) rfl ?_
      show _ = go (beg (s.place + 1)) _
      rw [hn, show lenT _ = 1 from rfl, ← hR.a]
      exact hon 0 _ _ r _ rfl (sx_neg _ _ _ _ 0 0)
    · refine .goes _ (hR.on (1 + k.toNat)) rfl ?_
      have := hon 0 _ _ r _ rfl (sx_jump _ _ _ _ _)
      show go b r = go (beg (s.place + (1 + k.toNat))) r
      rw [show go b r = go (b + 0) r from rfl, this, Int.toNat_natCast, Nat.add_assoc]
    · have e1 : go b r = go (b + 1) (upd r 2 k) := hon 0 _ _ _ _ rfl (sx_const _ _ _ _ _ _)
      refine .ends k rfl ?_
      rw [e1, hend 1 _ (upd r 2 k) _ rfl (sx_ret _ _ _ _ _)]
      show (upd r 2 k 2, (0 : Int)) = _
      rw [upd_at]
    · refine .ends s.a rfl ?_
      rw [show go b r = go (b + 0) r from rfl, hend 0 _ r _ rfl (sx_ret _ _ _ _ _)]
      show (r 0, (0 : Int)) = _
      rw [hR.a]
    · refine .goes _ ((hR.setx s.a).on 1) rfl ?_
      show _ = go (beg (s.place + 1)) _
      rw [hn, show lenT _ = 1 from rfl, ← hR.a]
      exact hon 0 _ _ r _ rfl (sx_move _ _ _ _ 1 0)
    · refine .goes _ ((hR.seta s.x).on 1) rfl ?_
      show _ = go (beg (s.place + 1)) _
      rw [hn, show lenT _ = 1 from rfl, ← hR.x]
      exact hon 0 _ _ r _ rfl (sx_move _ _ _ _ 0 1)
theorem sim_from {q : Nat → Ins} {n : Nat} (h : Accepted q n) (word : Nat → BitVec 32) : ∀ (f k : Nat) (r : Nat → BitVec 32), n - (iterS q n 64 word k).place ≤ f → (iterS q n 64 word k).done = false → RelT r (iterS q n 64 word k) →
    ansE (atM (progT q n) (begN q n) (fun i => i) word (begN q (iterS q n 64 word k).place) r) = ((runM q n 64 word).ans, 0)
  | f, k, r, hf, hd, hR => by
    have hacc := accepted_iter h word k
    have hpl : (iterS q n 64 word k).place < n ∧ (iterS q n 64 word k).err = 0 := by
      rcases hacc with ⟨_, h2, h3⟩ | ⟨h1, _⟩
      · exact ⟨h2, h3⟩
      · rw [hd] at h1; cases h1
    have hgo := iter_going q n 64 word k hd
    have hstep : iterS q n 64 word (k + 1) = (iterS q n 64 word k).does word (q (iterS q n 64 word k).place) := by
      have ho := one_ok.1 (h.all _ hpl.1)
      have hw := ho.wrong
      show (iterS q n 64 word k).step q n 64 word = _
      unfold Mach.step
      rw [if_neg (by rw [hd]; decide), if_neg (by decide), if_neg (by omega), if_neg (fun g => g hw)]
    have hrun := iter_is_run q n 64 word (k := k + 1)
    have hnext := step_going q n 64 word (iterS q n 64 word k)
    have ho := one_ok.1 (h.all _ hpl.1)
    have hRt := right_T h
    have hat : ∀ j y, (transI (begN q) (q (iterS q n 64 word k).place) (iterS q n 64 word k).place (begN q (iterS q n 64 word k).place))[j]? = some y → begN q (iterS q n 64 word k).place + j < begN q n ∧ progT q n (begN q (iterS q n 64 word k).place + j) = y := fun j y hy => by
      refine ⟨?_, progT_at hpl.1 hy⟩
      have hj := (List.getElem?_eq_some_iff.1 hy).1
      rw [trans_len] at hj
      have h2 := beg_up q (i := (iterS q n 64 word k).place + 1) (j := n) (by omega)
      have h3 : begN q ((iterS q n 64 word k).place + 1) = begN q (iterS q n 64 word k).place + lenT (q (iterS q n 64 word k).place) := rfl
      omega
    have hS := sim_one (beg := begN q) (b := begN q (iterS q n 64 word k).place) ho (seals_three (k := (q (iterS q n 64 word k).place).k) ho.wrong) word (fun p r => ansE (atM (progT q n) (begN q n) (fun i => i) word p r)) rfl
      (fun j y p r r' hy he => by
        obtain ⟨g1, g2⟩ := hat j y hy
        show ansE (atM _ _ _ _ _ _) = ansE (atM _ _ _ _ _ _)
        rw [at_on hRt g1 (r := r) (p := p) (r' := r') (by rw [stepM, g2]; exact he)]
        rfl)
      (fun j y r e hy he => by
        obtain ⟨g1, g2⟩ := hat j y hy
        show ansE (atM _ _ _ _ _ _) = ansE e
        rw [at_stop g1 (r := r) (s := e) (by rw [stepM, g2]; exact he)])
      hR rfl
    rw [← hstep] at hS
    rcases hS with ⟨v, h1, h2⟩ | ⟨r', h1, h2, h3⟩
    · have hdn : (iterS q n 64 word (k + 1)).done = true := by rw [h1]; rfl
      have := hrun hdn (by omega)
      rw [← this, h2, h1]; rfl
    · have hd' : (iterS q n 64 word (k + 1)).done = false := h2.trans hd
      have hn := hnext hd'
      match f, hf with
      | 0, hf => exact absurd hf (by omega)
      | f + 1, hf =>
        have : (iterS q n 64 word (k + 1)).place = ((iterS q n 64 word k).step q n 64 word).place := rfl
        rw [h3]
        exact sim_from h word f (k + 1) r' (by omega) hd' h1
/-- P12.1, of the document's run. -/
theorem sim_run {q : Nat → Ins} {n : Nat} (h : Accepted q n) (word : Nat → BitVec 32) : (runR 19 (progT q n) (begN q n) 64 word).ans = (runM q n 64 word).ans ∧ (runR 19 (progT q n) (begN q n) 64 word).err = 0 := by
  have h1 := sim_from h word n 0 zeroR (by show n - 0 ≤ n; omega) rfl ⟨rfl, rfl, fun _ _ => rfl⟩
  have h2 : ansE (runR 19 (progT q n) (begN q n) 64 word) = ((runM q n 64 word).ans, 0) := by
    unfold runR
    rw [if_neg (by rw [chk_is.2 (right_T h)]; decide), if_neg (by decide)]
    exact h1
  exact ⟨congrArg Prod.fst h2, congrArg Prod.snd h2⟩
end Go.Proofs.YtoajommeiocfpaaGreat
