/-
  Runs in which whatever nobody asks for is turned: plain functions. No condition: nothing here speaks of a program of Go's.
-/
import Derived.Test.YtoajommeiocfpaaDoorLiveBeh
namespace Go.Proofs.YtoajommeiocfpaaDoor
open Go
set_option linter.unusedSimpArgs false
set_option linter.unusedVariables false

theorem fN_has (n : Nat) (L : List Int) : ∀ {k j : Nat}, j < k → 0 ≤ L.getD j 0 ∧ L.getD j 0 < n → L.getD j 0 ∈ fN n L k
  | 0, j, h, _ => absurd h (Nat.not_lt_zero _)
  | k + 1, j, h, hz => by
    rw [fN]
    by_cases e : j = k
    · subst e
      rw [if_pos hz]; simp
    · have := fN_has n L (show j < k by omega) hz
      split
      · exact List.mem_append_left _ this
      · exact this
/-- A step goes a way that is told. -/
theorem way_in {regs : Int} {q : Nat → Irx} {n : Nat} (hR : RightM regs q n) (h : Nat → Nat) (word : Nat → BitVec 32) {i : Nat} (hi : i < n) (r : Nat → BitVec 32) {p : Nat} {r' : Nat → BitVec 32} (he : stepM q h word i r = .on p r') : (p : Int) ∈ nextM n q (i : Int) := by
  have hp := step_ahead hR h word hi r he
  have ho := hR.one hi
  unfold nextM
  rw [if_neg (by omega), Int.toNat_natCast]
  unfold stepM stepX at he
  simp only at he
  generalize q i = x at *
  have hop := ho.op
  have ht := ho.t
  have hf := ho.f
  by_cases h1 : x.op = 19
  · rw [if_pos h1] at he; cases he
  rw [if_neg h1] at he
  by_cases h7 : x.op = 7 ∧ (if bM x.op = true then r (h x.b.toNat) else 0#32) = 0#32
  · rw [if_pos h7] at he; cases he
  rw [if_neg h7] at he
  injection he with h2 h3
  have key : ∀ z : Int, z.toNat = p → 0 ≤ z → ∀ j, j < (allN x (i : Int)).length → (allN x (i : Int)).getD j 0 = z → (p : Int) ∈ fN n (allN x (i : Int)) (allN x (i : Int)).length := fun z hz h0 j hj e => by
    have := fN_has n (allN x (i : Int)) hj (by rw [e]; omega)
    rw [e] at this
    rw [show (p : Int) = z by omega]; exact this
  by_cases h4 : x.op = 14
  · rw [if_pos h4] at h2
    have e : allN x (i : Int) = [x.t] := by unfold allN; rw [if_neg (by omega), if_pos h4]
    have := ht (by simp [tM, h4])
    rw [e] at key ⊢
    exact key x.t h2 (by omega) 0 (by simp) rfl
  rw [if_neg h4] at h2
  by_cases h5 : fM x.op = true
  · rw [if_pos h5] at h2
    have hop5 : 15 ≤ x.op := by simp [fM] at h5; omega
    have g1 := ht (by simp [tM]; omega)
    have g2 := hf h5
    by_cases ge : x.t = x.f
    · have e : allN x (i : Int) = [x.t] := by unfold allN; rw [if_neg (by omega), if_neg h4, if_pos hop5, if_pos ge]
      rw [e] at key ⊢
      refine key x.t ?_ (by omega) 0 (by simp) rfl
      rw [← ge, ite_self] at h2
      exact h2
    · have e : allN x (i : Int) = [x.t, x.f] := by unfold allN; rw [if_neg (by omega), if_neg h4, if_pos hop5, if_neg ge]
      rw [e] at key ⊢
      by_cases hs : saysM x.op (if aM x.op = true then r (h x.a.toNat) else 0#32) (if bM x.op = true then r (h x.b.toNat) else 0#32) = true
      · rw [if_pos hs] at h2
        exact key x.t h2 (by omega) 0 (by simp) rfl
      · rw [if_neg hs] at h2
        exact key x.f h2 (by omega) 1 (by simp) rfl
  · rw [if_neg h5] at h2
    have e : allN x (i : Int) = [(i : Int) + 1] := by unfold allN; rw [if_neg (by omega), if_neg h4, if_neg (by simp [fM] at h5; omega)]
    rw [e] at key ⊢
    exact key ((i : Int) + 1) (by omega) (by omega) 0 (by simp) rfl
/-- Registers alike where they are asked for. -/
def AgreeS (s : BitVec 64) (r1 r2 : Nat → BitVec 32) : Prop := ∀ k, k < 64 → s.getLsbD k = true → r1 k = r2 k
theorem AgreeS.from_way {regs : Int} {q : Nat → Irx} {n i p : Nat} (hw : (p : Int) ∈ nextM n q (i : Int)) {r1 r2 : Nat → BitVec 32} (h : AgreeS (laterB q n i) r1 r2) : AgreeS (fromB q n p) r1 r2 := fun k hk hb => h k hk (by
  unfold laterB
  rw [orF_bit, List.any_eq_true]
  exact ⟨(p : Int), hw, by rw [Int.toNat_natCast]; exact hb⟩)
theorem use_a {x : Irx} (h : aM x.op = true) : x.a ∈ useL x := by
  unfold useL askN
  by_cases g : bM x.op = true
  · rw [if_pos g]; exact List.mem_cons_self
  · rw [if_neg g, if_pos h]; exact List.mem_cons_self
theorem use_b {x : Irx} (h : bM x.op = true) : x.b ∈ useL x := by
  unfold useL askN
  rw [if_pos h]
  exact List.mem_cons_of_mem _ List.mem_cons_self
theorem uses_bit {regs : Int} {q : Nat → Irx} {n : Nat} (hR : RightM regs q n) {i : Nat} (hi : i < n) {z : Int} (hz : z ∈ useL (q i)) : (fromB q n i).getLsbD z.toNat = true ∧ z.toNat < 64 := by
  have hu := (use_right hR hi).1 z hz
  have hrg := hR.rg
  refine ⟨?_, by omega⟩
  rw [from_eq hR hi, BitVec.getLsbD_or]
  have : (usesB (q i)).getLsbD z.toNat = true := by
    unfold usesB
    rw [orF_bit, List.any_eq_true]
    exact ⟨z, hz, by rw [only_bit ⟨hu.1, by omega⟩]; exact decide_eq_true (by omega)⟩
  rw [this]; simp
theorem step_agree {regs : Int} {q : Nat → Irx} {n : Nat} (hR : RightM regs q n) (word : Nat → BitVec 32) {i : Nat} (hi : i < n) {r1 r2 : Nat → BitVec 32} (ha : AgreeS (fromB q n i) r1 r2) :
    (∀ s, stepM q (fun i => i) word i r1 = .stop s → stepM q (fun i => i) word i r2 = .stop s) ∧ (∀ p r1', stepM q (fun i => i) word i r1 = .on p r1' → ∃ r2', stepM q (fun i => i) word i r2 = .on p r2' ∧ AgreeS (laterB q n i) r1' r2') := by
  have hA : (if aM (q i).op = true then r2 (q i).a.toNat else 0#32) = (if aM (q i).op = true then r1 (q i).a.toNat else 0#32) := by
    by_cases g : aM (q i).op = true
    · rw [if_pos g, if_pos g]
      have := uses_bit hR hi (use_a g)
      exact (ha _ this.2 this.1).symm
    · rw [if_neg g, if_neg g]
  have hB : (if bM (q i).op = true then r2 (q i).b.toNat else 0#32) = (if bM (q i).op = true then r1 (q i).b.toNat else 0#32) := by
    by_cases g : bM (q i).op = true
    · rw [if_pos g, if_pos g]
      have := uses_bit hR hi (use_b g)
      exact (ha _ this.2 this.1).symm
    · rw [if_neg g, if_neg g]
  have hD := (use_right hR hi).2
  have hd := (hR.one hi).d
  have hrg := hR.rg
  have hfe := from_eq hR hi
  unfold stepM stepX
  simp only
  rw [hA, hB]
  generalize (if aM (q i).op = true then r1 (q i).a.toNat else 0#32) = va
  generalize (if bM (q i).op = true then r1 (q i).b.toNat else 0#32) = vb
  by_cases h1 : (q i).op = 19
  · rw [if_pos h1, if_pos h1]
    exact ⟨fun s e => e, fun p r e => by cases e⟩
  rw [if_neg h1, if_neg h1]
  by_cases h7 : (q i).op = 7 ∧ vb = 0#32
  · rw [if_pos h7, if_pos h7]
    exact ⟨fun s e => e, fun p r e => by cases e⟩
  rw [if_neg h7, if_neg h7]
  refine ⟨fun s e => (by cases e), fun p r1' e => ?_⟩
  injection e with e1 e2
  refine ⟨_, by rw [e1], ?_⟩
  subst e2
  intro k hk hb
  by_cases g : dM (q i).op = true
  · rw [if_pos g, if_pos g]
    unfold upd
    by_cases e : k = (q i).d.toNat
    · rw [if_pos e, if_pos e]
    · rw [if_neg e, if_neg e]
      refine ha k hk ?_
      rw [hfe, BitVec.getLsbD_or, BitVec.getLsbD_and, hb, BitVec.getLsbD_not]
      have : (setsB (q i)).getLsbD k = false := by
        unfold setsB useD
        rw [if_pos g]
        have := hd g
        rw [if_pos this.1, only_bit ⟨this.1, by omega⟩]
        exact decide_eq_false (by omega)
      rw [this]; simp [hk]
  · rw [if_neg g, if_neg g]
    refine ha k hk ?_
    rw [hfe, BitVec.getLsbD_or, BitVec.getLsbD_and, hb, BitVec.getLsbD_not]
    have : (setsB (q i)).getLsbD k = false := by
      unfold setsB useD
      rw [if_neg g, if_neg (by decide)]
      exact BitVec.getLsbD_zero
    rw [this]; simp [hk]
def spoilR (w : BitVec 32) (m : Nat) (s : BitVec 64) (r : Nat → BitVec 32) : Nat → BitVec 32 := fun k => if k < m ∧ s.getLsbD k = false then r k * 5#32 + w + BitVec.ofNat 32 k else r k
theorem AgreeS.spoil {s : BitVec 64} {r1 r2 : Nat → BitVec 32} (h : AgreeS s r1 r2) (w : BitVec 32) (m : Nat) : AgreeS s r1 (spoilR w m s r2) := fun k hk hb => by
  unfold spoilR
  rw [if_neg (by rw [hb]; simp)]
  exact h k hk hb
/-- A run in which whatever nobody asks for is turned. -/
def goS (q : Nat → Irx) (n m : Nat) (w : BitVec 32) (word : Nat → BitVec 32) : Nat → Nat → (Nat → BitVec 32) → EndM
  | 0, _, _ => ⟨0#32, 0, 0, 0⟩
  | f + 1, at_, r => match stepM q (fun i => i) word at_ r with
    | .stop s => s
    | .on p r' => (goS q n m w word f p (spoilR w m (laterB q n at_) r')).more
theorem go_spoiled {regs : Int} {q : Nat → Irx} {n : Nat} (hR : RightM regs q n) (m : Nat) (w : BitVec 32) (word : Nat → BitVec 32) : ∀ (f at_ : Nat) (r1 r2 : Nat → BitVec 32), at_ < n → AgreeS (fromB q n at_) r1 r2 → goS q n m w word f at_ r2 = goM q (fun i => i) word f at_ r1
  | 0, _, _, _, _, _ => rfl
  | f + 1, at_, r1, r2, ha, hA => by
    have hs := step_agree hR word ha hA
    rw [goS, goM]
    cases he : stepM q (fun i => i) word at_ r1 with
    | stop s => rw [hs.1 s he]
    | on p r1' =>
      obtain ⟨r2', he2, hA2⟩ := hs.2 p r1' he
      rw [he2]
      have hp := step_ahead hR (fun i => i) word ha r1 he
      have hw := way_in hR (fun i => i) word ha r1 he
      show (goS q n m w word f p _).more = (goM q _ word f p r1').more
      rw [go_spoiled hR m w word f p r1' _ hp.2 ((hA2.spoil w m).from_way (regs := regs) hw)]
theorem goS_enough {regs : Int} {q : Nat → Irx} {n : Nat} (hR : RightM regs q n) (m : Nat) (w : BitVec 32) (word : Nat → BitVec 32) (f f' at_ : Nat) (r : Nat → BitVec 32) (ha : at_ < n) (h1 : n - at_ ≤ f) (h2 : n - at_ ≤ f') : goS q n m w word f at_ r = goS q n m w word f' at_ r := by
  rw [go_spoiled hR m w word f at_ r r ha (fun _ _ _ => rfl), go_spoiled hR m w word f' at_ r r ha (fun _ _ _ => rfl), go_enough hR _ word f f' at_ r ha h1 h2]
def atS (q : Nat → Irx) (n m : Nat) (w : BitVec 32) (word : Nat → BitVec 32) (at_ : Nat) (r : Nat → BitVec 32) : EndM := goS q n m w word n at_ r
theorem atS_stop {q : Nat → Irx} {n m : Nat} {w : BitVec 32} {word : Nat → BitVec 32} {at_ : Nat} (ha : at_ < n) {r : Nat → BitVec 32} {s : EndM} (he : stepM q (fun i => i) word at_ r = .stop s) : atS q n m w word at_ r = s := by
  obtain ⟨k, rfl⟩ : ∃ k, n = k + 1 := ⟨n - 1, by omega⟩
  rw [atS, goS, he]
theorem atS_on {regs : Int} {q : Nat → Irx} {n : Nat} (hR : RightM regs q n) {m : Nat} {w : BitVec 32} {word : Nat → BitVec 32} {at_ : Nat} (ha : at_ < n) {r : Nat → BitVec 32} {p : Nat} {r' : Nat → BitVec 32} (he : stepM q (fun i => i) word at_ r = .on p r') : atS q n m w word at_ r = (atS q n m w word p (spoilR w m (laterB q n at_) r')).more := by
  have hp := step_ahead hR (fun i => i) word ha r he
  obtain ⟨k, rfl⟩ : ∃ k, n = k + 1 := ⟨n - 1, by omega⟩
  rw [atS, goS, he]
  show (goS q (k + 1) m w word k p _).more = (goS q (k + 1) m w word (k + 1) p _).more
  rw [goS_enough hR m w word k (k + 1) p _ hp.2 (by omega) (by omega)]
/-- P13.1, of the plain functions. -/
theorem spoiled_same {regs : Int} {q : Nat → Irx} {n : Nat} (hR : RightM regs q n) (m : Nat) (w : BitVec 32) (word : Nat → BitVec 32) (r : Nat → BitVec 32) : atS q n m w word 0 r = atM q n (fun i => i) word 0 r :=
  go_spoiled hR m w word n 0 r r hR.pos (fun _ _ _ => rfl)
end Go.Proofs.YtoajommeiocfpaaDoor
