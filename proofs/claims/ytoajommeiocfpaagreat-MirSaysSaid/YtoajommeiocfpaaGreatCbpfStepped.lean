/-
  What the document's Step of classic BPF does to its machine: one contract for every program and all data. Conditions: Ready's.
-/
import Derived.Test.YtoajommeiocfpaaGreatCbpfGoes
namespace Go.Proofs.YtoajommeiocfpaaGreat
open Go Go.RowKit
set_option linter.unusedSimpArgs false
set_option linter.unusedVariables false

theorem seals_three {c : Int} {k : BitVec 32} (h : wrongE c k = 0) : aluC c = true ∨ (aluC c = false ∧ jumpC c = true) ∨ (aluC c = false ∧ jumpC c = false ∧ restC c = true) := by
  rcases ha : aluC c with _ | _
  · rcases hj : jumpC c with _ | _
    · rcases hr : restC c with _ | _
      · rw [wrongE, if_pos (by rw [sealsC, ha, hj, hr]; rfl)] at h; cases h
      · exact .inr (.inr ⟨rfl, rfl, rfl⟩)
    · exact .inr (.inl ⟨rfl, rfl⟩)
  · exact .inl rfl
theorem wrong_52 {k : BitVec 32} (h : wrongE 52 k = 0) : k ≠ 0#32 := fun hk => by
  subst hk; exact absurd h (by decide)
theorem usesX_60 : usesX 60 = true := rfl

/-- Behind what nothing kept from being done. -/
theorem ref_does (w : World) (b qb qo n qcap db doff dcap : Nat) (z : Nat → Int) (s : Mach) (c : Int) (jt jf : Nat) (k : BitVec 32) (h : Going w b qb qo n qcap db doff dcap z s c jt jf k) (hw : wrongE c k = 0) (hjt : jt < 256) (hjf : jf < 256) :
    Calls Tryz.prog 15 #[.pointer (some ⟨b, 0, none⟩)] w (MethP w b (.slice (some ⟨qb, qo, none⟩) n qcap) (.slice (some ⟨db, doff, none⟩) 64 dcap) (s.does (wordZ z) ⟨c, jt, jf, k⟩).done (s.does (wordZ z) ⟨c, jt, jf, k⟩)) := by
  have hg := h.going
  rcases seals_three hw with ha | ⟨ha, hj⟩ | ⟨ha, hj, hr⟩
  · by_cases h60 : c = 60
    · subst h60
      by_cases hx0 : s.x = 0#32
      · have e : s.does (wordZ z) ⟨60, jt, jf, k⟩ = s.ends 0#32 := by simp [Mach.does, ha, usesX_60, hx0]
        rw [e]
        exact step_div0 w b qb qo n qcap db doff dcap z s jt jf k h hw hx0
      · have e : s.does (wordZ z) ⟨60, jt, jf, k⟩ = Mach.on { s with a := twoN (opN 60) s.a s.x } 1 := by simp [Mach.does, ha, usesX_60, hx0]
        rw [e, show (Mach.on { s with a := twoN (opN 60) s.a s.x } 1).done = false from hg]
        exact step_alu_60 w b qb qo n qcap db doff dcap z s jt jf k h hw (fun g => hx0 (BitVec.eq_of_toNat_eq (by simpa using g))) (fun _ => hx0)
    · rcases hx : usesX c with _ | _
      · have e : s.does (wordZ z) ⟨c, jt, jf, k⟩ = Mach.on { s with a := twoN (opN c) s.a k } 1 := by simp [Mach.does, ha, hx, h60]
        rw [e, show (Mach.on { s with a := twoN (opN c) s.a k } 1).done = false from hg]
        exact step_alu_k w b qb qo n qcap db doff dcap z s c jt jf k h hw ha hx h60 (fun g => g.elim (fun g => by subst g; exact wrong_52 hw) (fun g => absurd g h60))
      · have e : s.does (wordZ z) ⟨c, jt, jf, k⟩ = Mach.on { s with a := twoN (opN c) s.a s.x } 1 := by simp [Mach.does, ha, hx, h60]
        rw [e, show (Mach.on { s with a := twoN (opN c) s.a s.x } 1).done = false from hg]
        exact step_alu_x w b qb qo n qcap db doff dcap z s c jt jf k h hw ha hx h60 (fun g => g.elim (fun g => by subst g; cases hx) (fun g => absurd g h60))
  · rcases hx : usesX c with _ | _
    · rcases hs : saysN (opN c) s.a k with _ | _
      · have e : s.does (wordZ z) ⟨c, jt, jf, k⟩ = s.on (1 + jf) := by simp [Mach.does, ha, hj, hx, hs]
        rw [e, show (s.on (1 + jf)).done = false from hg]
        exact step_jump_k_jf w b qb qo n qcap db doff dcap z s c jt jf k h hw hj hjf hx hs
      · have e : s.does (wordZ z) ⟨c, jt, jf, k⟩ = s.on (1 + jt) := by simp [Mach.does, ha, hj, hx, hs]
        rw [e, show (s.on (1 + jt)).done = false from hg]
        exact step_jump_k_jt w b qb qo n qcap db doff dcap z s c jt jf k h hw hj hjt hx hs
    · rcases hs : saysN (opN c) s.a s.x with _ | _
      · have e : s.does (wordZ z) ⟨c, jt, jf, k⟩ = s.on (1 + jf) := by simp [Mach.does, ha, hj, hx, hs]
        rw [e, show (s.on (1 + jf)).done = false from hg]
        exact step_jump_x_jf w b qb qo n qcap db doff dcap z s c jt jf k h hw hj hjf hx hs
      · have e : s.does (wordZ z) ⟨c, jt, jf, k⟩ = s.on (1 + jt) := by simp [Mach.does, ha, hj, hx, hs]
        rw [e, show (s.on (1 + jt)).done = false from hg]
        exact step_jump_x_jt w b qb qo n qcap db doff dcap z s c jt jf k h hw hj hjt hx hs
  · by_cases h5 : c = 5
    · subst h5
      have e : s.does (wordZ z) ⟨5, jt, jf, k⟩ = s.on (1 + k.toNat) := by simp [Mach.does, ha, hj]
      rw [e, show (s.on (1 + k.toNat)).done = false from hg]
      exact step_5 w b qb qo n qcap db doff dcap z s jt jf k h hw
    · by_cases h6 : c = 6
      · subst h6
        have e : s.does (wordZ z) ⟨6, jt, jf, k⟩ = s.ends k := by simp [Mach.does, ha, hj]
        rw [e]
        exact step_6 w b qb qo n qcap db doff dcap z s jt jf k h hw
      · by_cases h22 : c = 22
        · subst h22
          have e : s.does (wordZ z) ⟨22, jt, jf, k⟩ = s.ends s.a := by simp [Mach.does, ha, hj]
          rw [e]
          exact step_22 w b qb qo n qcap db doff dcap z s jt jf k h hw
        · have e : s.does (wordZ z) ⟨c, jt, jf, k⟩ = (s.moves (wordZ z) ⟨c, jt, jf, k⟩).on 1 := by simp [Mach.does, ha, hj, h5, h6, h22]
          rw [e, show ((s.moves (wordZ z) ⟨c, jt, jf, k⟩).on 1).done = false by rw [← hg]; simp only [Mach.on, Mach.moves, apply_ite Mach.done, ite_self]]
          exact step_moves w b qb qo n qcap db doff dcap z s c jt jf k h hw hr h5 h6 h22

theorem ref_Step (w : World) (b : Nat) (qa : Option Addr) (n qcap : Nat) (q : Nat → Ins) (da : Option Addr) (dlen dcap : Nat) (z : Nat → Int) (s : Mach) (h : Ready w b qa n qcap q da dlen dcap z s) :
    Calls Tryz.prog 15 #[.pointer (some ⟨b, 0, none⟩)] w (MethP w b (.slice qa n qcap) (.slice da dlen dcap) (s.step q n dlen (wordZ z)).done (s.step q n dlen (wordZ z))) := by
  rcases hd : s.done with _ | _
  · by_cases hl : dlen = 64
    · subst hl
      by_cases hp : n ≤ s.place
      · have e : s.step q n 64 (wordZ z) = s.fails 33 := by simp [Mach.step, hd, hp]
        rw [e]
        exact step_place w b qa n qcap q da dcap z s h hd hp
      · obtain ⟨db, doff, rfl, hz⟩ := h.data rfl
        obtain ⟨qb, qo, rfl, hql, hc⟩ := h.prog (by omega)
        have hlt : s.place < n := by omega
        have G : Going w b qb qo n qcap db doff dcap z s (q s.place).code (q s.place).jt (q s.place).jf (q s.place).k := ⟨h.mach, hc _ hlt, hql, hz, hd, hlt, h.len, h.steps⟩
        by_cases hw : wrongE (q s.place).code (q s.place).k = 0
        · have e : s.step q n 64 (wordZ z) = s.does (wordZ z) (q s.place) := by simp [Mach.step, hd, hp, hw]
          rw [e]
          exact ref_does w b qb qo n qcap db doff dcap z s _ _ _ _ G hw (h.ok _ hlt).2.2.1 (h.ok _ hlt).2.2.2
        · have e : s.step q n 64 (wordZ z) = s.fails (wrongE (q s.place).code (q s.place).k) := by simp [Mach.step, hd, hp, hw]
          rw [e]
          exact step_wrong w b qb qo n qcap db doff dcap z s _ _ _ _ G hw
    · have e : s.step q n dlen (wordZ z) = s.fails 21 := by simp [Mach.step, hd, hl]
      rw [e]
      exact step_len w b qa n qcap q da dlen dcap z s h hd hl
  · have e : s.step q n dlen (wordZ z) = s := by simp [Mach.step, hd]
    rw [e, hd]
    exact step_done w b qa n qcap q da dlen dcap z s h hd
end Go.Proofs.YtoajommeiocfpaaGreat
