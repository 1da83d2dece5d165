/-
  What the program's Step of classic BPF does to its machine: one contract for every program and all data. Conditions: PReady's.
-/
import Derived.Test.YtgpjiflgocgolaaPStep2
import Derived.Test.YtgpjiflgocgolaaCbpfAll
namespace Go.Proofs.Ytgpjiflgocgolaa
open Go Go.RowKit
set_option linter.unusedSimpArgs false
set_option linter.unusedVariables false
set_option maxRecDepth 100000

theorem enters_load : Go.Proofs.Enters Try.prog 60 := Go.Proofs.enters_of Try.func60 (by kernel_rfl) rfl
theorem enters_loadLen : Go.Proofs.Enters Try.prog 61 := Go.Proofs.enters_of Try.func61 (by kernel_rfl) rfl
theorem enters_loadLenX : Go.Proofs.Enters Try.prog 62 := Go.Proofs.enters_of Try.func62 (by kernel_rfl) rfl
theorem enters_loadConst : Go.Proofs.Enters Try.prog 63 := Go.Proofs.enters_of Try.func63 (by kernel_rfl) rfl
theorem enters_loadConstX : Go.Proofs.Enters Try.prog 64 := Go.Proofs.enters_of Try.func64 (by kernel_rfl) rfl
theorem enters_loadScratch : Go.Proofs.Enters Try.prog 65 := Go.Proofs.enters_of Try.func65 (by kernel_rfl) rfl
theorem enters_loadScratchX : Go.Proofs.Enters Try.prog 66 := Go.Proofs.enters_of Try.func66 (by kernel_rfl) rfl
theorem enters_store : Go.Proofs.Enters Try.prog 67 := Go.Proofs.enters_of Try.func67 (by kernel_rfl) rfl
theorem enters_storeX : Go.Proofs.Enters Try.prog 68 := Go.Proofs.enters_of Try.func68 (by kernel_rfl) rfl
theorem enters_add : Go.Proofs.Enters Try.prog 69 := Go.Proofs.enters_of Try.func69 (by kernel_rfl) rfl
theorem enters_sub : Go.Proofs.Enters Try.prog 70 := Go.Proofs.enters_of Try.func70 (by kernel_rfl) rfl
theorem enters_mul : Go.Proofs.Enters Try.prog 71 := Go.Proofs.enters_of Try.func71 (by kernel_rfl) rfl
theorem enters_div : Go.Proofs.Enters Try.prog 72 := Go.Proofs.enters_of Try.func72 (by kernel_rfl) rfl
theorem enters_or : Go.Proofs.Enters Try.prog 73 := Go.Proofs.enters_of Try.func73 (by kernel_rfl) rfl
theorem enters_and : Go.Proofs.Enters Try.prog 74 := Go.Proofs.enters_of Try.func74 (by kernel_rfl) rfl
theorem enters_left : Go.Proofs.Enters Try.prog 75 := Go.Proofs.enters_of Try.func75 (by kernel_rfl) rfl
theorem enters_right : Go.Proofs.Enters Try.prog 76 := Go.Proofs.enters_of Try.func76 (by kernel_rfl) rfl
theorem enters_xor : Go.Proofs.Enters Try.prog 77 := Go.Proofs.enters_of Try.func77 (by kernel_rfl) rfl
theorem enters_negate : Go.Proofs.Enters Try.prog 78 := Go.Proofs.enters_of Try.func78 (by kernel_rfl) rfl
theorem enters_jump : Go.Proofs.Enters Try.prog 79 := Go.Proofs.enters_of Try.func79 (by kernel_rfl) rfl
theorem enters_ifEqual : Go.Proofs.Enters Try.prog 80 := Go.Proofs.enters_of Try.func80 (by kernel_rfl) rfl
theorem enters_ifAbove : Go.Proofs.Enters Try.prog 81 := Go.Proofs.enters_of Try.func81 (by kernel_rfl) rfl
theorem enters_ifNotBelow : Go.Proofs.Enters Try.prog 82 := Go.Proofs.enters_of Try.func82 (by kernel_rfl) rfl
theorem enters_ifCommon : Go.Proofs.Enters Try.prog 83 := Go.Proofs.enters_of Try.func83 (by kernel_rfl) rfl
theorem enters_returnConst : Go.Proofs.Enters Try.prog 84 := Go.Proofs.enters_of Try.func84 (by kernel_rfl) rfl
theorem enters_returnA : Go.Proofs.Enters Try.prog 85 := Go.Proofs.enters_of Try.func85 (by kernel_rfl) rfl
theorem enters_copyToX : Go.Proofs.Enters Try.prog 86 := Go.Proofs.enters_of Try.func86 (by kernel_rfl) rfl
theorem enters_copyToA : Go.Proofs.Enters Try.prog 87 := Go.Proofs.enters_of Try.func87 (by kernel_rfl) rfl
theorem ops_some {c : Int} (hs : sealsC c = true) : ∃ f : Nat, opF opL c (-1) = (f : Int) := by
  have hs' : aluC c = true ∨ jumpC c = true ∨ restC c = true := by
    rcases ha : aluC c with _ | _
    · rcases hj : jumpC c with _ | _
      · rcases hr : restC c with _ | _
        · rw [sealsC, ha, hj, hr] at hs; cases hs
        · exact .inr (.inr rfl)
      · exact .inr (.inl rfl)
    · exact .inl rfl
  rcases hs' with h | h | h
  · rcases alu_cases h with rfl | rfl | rfl | rfl | rfl | rfl | rfl | rfl | rfl | rfl | rfl | rfl | rfl | rfl | rfl | rfl | rfl | rfl <;> exact ⟨_, rfl⟩
  · rcases jump_cases h with rfl | rfl | rfl | rfl | rfl | rfl | rfl | rfl <;> exact ⟨_, rfl⟩
  · rcases rest_cases h with rfl | rfl | rfl | rfl | rfl | rfl | rfl | rfl | rfl | rfl | rfl | rfl | rfl | rfl | rfl <;> exact ⟨_, rfl⟩
theorem on_place (s : Mach) (m : Nat) : s.on (1 + m) = { { s with place := s.place + m } with steps := s.steps + 1, place := s.place + m + 1 } := by
  unfold Mach.on
  rw [show s.place + (1 + m) = s.place + m + 1 by omega]
section
variable (w : World) (b qb qo n qcap db doff dcap : Nat) (z : Nat → Int) (mb : Nat) (s : Mach) (c : Int) (jt jf : Nat) (k : BitVec 32)
abbrev OpC (f : Nat) (s' : Mach) : Prop := ∀ W, PGoing W b qb qo n qcap db doff dcap z mb s c jt jf k → Calls Try.prog f #[.pointer (some ⟨b, 0, none⟩), .agg #[.int .u16 c, .int .u8 (jt : Int), .int .u8 (jf : Int), .int .u32 (k.toNat : Int)]] W (OpP W b (.slice (some ⟨qb, qo, none⟩) n qcap) (.slice (some ⟨db, doff, none⟩) 64 dcap) (.map (some mb)) s')
abbrev StepC (t : Mach) : Prop := Calls Try.prog 22 #[.pointer (some ⟨b, 0, none⟩)] w (PMethP w b (.slice (some ⟨qb, qo, none⟩) n qcap) (.slice (some ⟨db, doff, none⟩) 64 dcap) (.map (some mb)) t.done t)
theorem p_on (h : PGoing w b qb qo n qcap db doff dcap z mb s c jt jf k) (hs : sealsC c = true) (hw : wrongE c k = 0) (f : Nat) (hf : opF opL c (-1) = (f : Int)) (hen : Go.Proofs.Enters Try.prog f) (s' : Mach) (hst : s'.steps = s.steps) (hdn : s'.done = false)
    (hpl : s'.place ≤ 1000000000000000000) (HC : OpC b qb qo n qcap db doff dcap z mb s c jt jf k f s') (t : Mach) (ht : t = { s' with steps := s'.steps + 1, place := s'.place + 1 }) : StepC w b qb qo n qcap db doff dcap mb t := by
  subst ht
  have := p_step_on w b qb qo n qcap db doff dcap z mb s c jt jf k h hs hw f hf hen s' hst hdn hpl HC
  exact this.mono fun e w' hh => ⟨hh.1.trans (congrArg (fun x => Ending.returned (Value.bool x)) hdn.symm), hh.2.1, hh.2.2⟩
theorem p_ends (h : PGoing w b qb qo n qcap db doff dcap z mb s c jt jf k) (hs : sealsC c = true) (hw : wrongE c k = 0) (f : Nat) (hf : opF opL c (-1) = (f : Int)) (hen : Go.Proofs.Enters Try.prog f) (s' : Mach) (hst : s'.steps = s.steps) (hdn : s'.done = true)
    (HC : OpC b qb qo n qcap db doff dcap z mb s c jt jf k f s') (t : Mach) (ht : t = { s' with steps := s'.steps + 1 }) : StepC w b qb qo n qcap db doff dcap mb t := by
  subst ht
  have := p_step_end w b qb qo n qcap db doff dcap z mb s c jt jf k h hs hw f hf hen s' hst hdn HC
  exact this.mono fun e w' hh => ⟨hh.1.trans (congrArg (fun x => Ending.returned (Value.bool x)) hdn.symm), hh.2.1, hh.2.2⟩
end
section
variable (w : World) (b qb qo n qcap db doff dcap : Nat) (z : Nat → Int) (mb : Nat) (s : Mach) (jt jf : Nat) (k : BitVec 32)
theorem does_128 (h : PGoing w b qb qo n qcap db doff dcap z mb s 128 jt jf k) (hw : wrongE 128 k = 0) : StepC w b qb qo n qcap db doff dcap mb (s.does (wordZ z) ⟨128, jt, jf, k⟩) :=
  p_on w b qb qo n qcap db doff dcap z mb s 128 jt jf k h rfl hw 61 (by decide) enters_loadLen { s with a := 64#32 } rfl h.going (by have := h.place; have := h.len; show s.place ≤ _; omega) (fun W h => p_loadLen W b _ _ _ s 128 jt jf k h.mach) _ rfl
theorem does_129 (h : PGoing w b qb qo n qcap db doff dcap z mb s 129 jt jf k) (hw : wrongE 129 k = 0) : StepC w b qb qo n qcap db doff dcap mb (s.does (wordZ z) ⟨129, jt, jf, k⟩) :=
  p_on w b qb qo n qcap db doff dcap z mb s 129 jt jf k h rfl hw 62 (by decide) enters_loadLenX { s with x := 64#32 } rfl h.going (by have := h.place; have := h.len; show s.place ≤ _; omega) (fun W h => p_loadLenX W b _ _ _ s 129 jt jf k h.mach) _ rfl
theorem does_0 (h : PGoing w b qb qo n qcap db doff dcap z mb s 0 jt jf k) (hw : wrongE 0 k = 0) : StepC w b qb qo n qcap db doff dcap mb (s.does (wordZ z) ⟨0, jt, jf, k⟩) :=
  p_on w b qb qo n qcap db doff dcap z mb s 0 jt jf k h rfl hw 63 (by decide) enters_loadConst { s with a := k } rfl h.going (by have := h.place; have := h.len; show s.place ≤ _; omega) (fun W h => p_loadConst W b _ _ _ s 0 jt jf k h.mach) _ rfl
theorem does_1 (h : PGoing w b qb qo n qcap db doff dcap z mb s 1 jt jf k) (hw : wrongE 1 k = 0) : StepC w b qb qo n qcap db doff dcap mb (s.does (wordZ z) ⟨1, jt, jf, k⟩) :=
  p_on w b qb qo n qcap db doff dcap z mb s 1 jt jf k h rfl hw 64 (by decide) enters_loadConstX { s with x := k } rfl h.going (by have := h.place; have := h.len; show s.place ≤ _; omega) (fun W h => p_loadConstX W b _ _ _ s 1 jt jf k h.mach) _ rfl
theorem does_132 (h : PGoing w b qb qo n qcap db doff dcap z mb s 132 jt jf k) (hw : wrongE 132 k = 0) : StepC w b qb qo n qcap db doff dcap mb (s.does (wordZ z) ⟨132, jt, jf, k⟩) :=
  p_on w b qb qo n qcap db doff dcap z mb s 132 jt jf k h rfl hw 78 (by decide) enters_negate { s with a := -s.a } rfl h.going (by have := h.place; have := h.len; show s.place ≤ _; omega) (fun W h => p_negate W b _ _ _ s 132 jt jf k h.mach) _ rfl
theorem does_7 (h : PGoing w b qb qo n qcap db doff dcap z mb s 7 jt jf k) (hw : wrongE 7 k = 0) : StepC w b qb qo n qcap db doff dcap mb (s.does (wordZ z) ⟨7, jt, jf, k⟩) :=
  p_on w b qb qo n qcap db doff dcap z mb s 7 jt jf k h rfl hw 86 (by decide) enters_copyToX { s with x := s.a } rfl h.going (by have := h.place; have := h.len; show s.place ≤ _; omega) (fun W h => p_copyToX W b _ _ _ s 7 jt jf k h.mach) _ rfl
theorem does_135 (h : PGoing w b qb qo n qcap db doff dcap z mb s 135 jt jf k) (hw : wrongE 135 k = 0) : StepC w b qb qo n qcap db doff dcap mb (s.does (wordZ z) ⟨135, jt, jf, k⟩) :=
  p_on w b qb qo n qcap db doff dcap z mb s 135 jt jf k h rfl hw 87 (by decide) enters_copyToA { s with a := s.x } rfl h.going (by have := h.place; have := h.len; show s.place ≤ _; omega) (fun W h => p_copyToA W b _ _ _ s 135 jt jf k h.mach) _ rfl
theorem does_96 (h : PGoing w b qb qo n qcap db doff dcap z mb s 96 jt jf k) (hw : wrongE 96 k = 0) : StepC w b qb qo n qcap db doff dcap mb (s.does (wordZ z) ⟨96, jt, jf, k⟩) := by
  have hk : k.toNat < 16 := by
    rcases Nat.lt_or_ge 15 k.toNat with g | g
    · rw [wrongE, if_neg (by decide), if_neg (by simp), if_pos ⟨by simp, g⟩] at hw; cases hw
    · omega
  exact p_on w b qb qo n qcap db doff dcap z mb s 96 jt jf k h rfl hw 65 (by decide) enters_loadScratch { s with a := s.m k.toNat } rfl h.going (by have := h.place; have := h.len; show s.place ≤ _; omega) (fun W h => p_loadScratch W b _ _ _ s 96 jt jf k h.mach hk) _ rfl
theorem does_97 (h : PGoing w b qb qo n qcap db doff dcap z mb s 97 jt jf k) (hw : wrongE 97 k = 0) : StepC w b qb qo n qcap db doff dcap mb (s.does (wordZ z) ⟨97, jt, jf, k⟩) := by
  have hk : k.toNat < 16 := by
    rcases Nat.lt_or_ge 15 k.toNat with g | g
    · rw [wrongE, if_neg (by decide), if_neg (by simp), if_pos ⟨by simp, g⟩] at hw; cases hw
    · omega
  exact p_on w b qb qo n qcap db doff dcap z mb s 97 jt jf k h rfl hw 66 (by decide) enters_loadScratchX { s with x := s.m k.toNat } rfl h.going (by have := h.place; have := h.len; show s.place ≤ _; omega) (fun W h => p_loadScratchX W b _ _ _ s 97 jt jf k h.mach hk) _ rfl
theorem does_2 (h : PGoing w b qb qo n qcap db doff dcap z mb s 2 jt jf k) (hw : wrongE 2 k = 0) : StepC w b qb qo n qcap db doff dcap mb (s.does (wordZ z) ⟨2, jt, jf, k⟩) := by
  have hk : k.toNat < 16 := by
    rcases Nat.lt_or_ge 15 k.toNat with g | g
    · rw [wrongE, if_neg (by decide), if_neg (by simp), if_pos ⟨by simp, g⟩] at hw; cases hw
    · omega
  exact p_on w b qb qo n qcap db doff dcap z mb s 2 jt jf k h rfl hw 67 (by decide) enters_store { s with m := fun j => if j = k.toNat then s.a else s.m j } rfl h.going (by have := h.place; have := h.len; show s.place ≤ _; omega) (fun W h => p_store W b _ _ _ s 2 jt jf k h.mach hk) _ rfl
theorem does_3 (h : PGoing w b qb qo n qcap db doff dcap z mb s 3 jt jf k) (hw : wrongE 3 k = 0) : StepC w b qb qo n qcap db doff dcap mb (s.does (wordZ z) ⟨3, jt, jf, k⟩) := by
  have hk : k.toNat < 16 := by
    rcases Nat.lt_or_ge 15 k.toNat with g | g
    · rw [wrongE, if_neg (by decide), if_neg (by simp), if_pos ⟨by simp, g⟩] at hw; cases hw
    · omega
  exact p_on w b qb qo n qcap db doff dcap z mb s 3 jt jf k h rfl hw 68 (by decide) enters_storeX { s with m := fun j => if j = k.toNat then s.x else s.m j } rfl h.going (by have := h.place; have := h.len; show s.place ≤ _; omega) (fun W h => p_storeX W b _ _ _ s 3 jt jf k h.mach hk) _ rfl
theorem does_32 (h : PGoing w b qb qo n qcap db doff dcap z mb s 32 jt jf k) (hw : wrongE 32 k = 0) : StepC w b qb qo n qcap db doff dcap mb (s.does (wordZ z) ⟨32, jt, jf, k⟩) := by
  have hk : k.toNat ≤ 60 ∧ k.toNat % 4 = 0 := by
    by_cases g : 60 < k.toNat ∨ k.toNat % 4 ≠ 0
    · rw [wrongE, if_neg (by decide), if_pos ⟨rfl, g⟩] at hw; cases hw
    · omega
  exact p_on w b qb qo n qcap db doff dcap z mb s 32 jt jf k h rfl hw 60 (by decide) enters_load { s with a := wordZ z k.toNat } rfl h.going (by have := h.place; have := h.len; show s.place ≤ _; omega) (fun W h => p_load W b _ _ s 32 jt jf k db doff dcap z h.bytes h.mach hk.1 hk.2) _ rfl
theorem does_4 (h : PGoing w b qb qo n qcap db doff dcap z mb s 4 jt jf k) (hw : wrongE 4 k = 0) : StepC w b qb qo n qcap db doff dcap mb (s.does (wordZ z) ⟨4, jt, jf, k⟩) :=
  p_on w b qb qo n qcap db doff dcap z mb s 4 jt jf k h rfl hw 69 (by decide) enters_add { s with a := s.a + k } rfl h.going (by have := h.place; have := h.len; show s.place ≤ _; omega) (fun W h => p_add W b _ _ _ s 4 jt jf k k h.mach (.inl ⟨by decide, rfl⟩)) _ rfl
theorem does_12 (h : PGoing w b qb qo n qcap db doff dcap z mb s 12 jt jf k) (hw : wrongE 12 k = 0) : StepC w b qb qo n qcap db doff dcap mb (s.does (wordZ z) ⟨12, jt, jf, k⟩) :=
  p_on w b qb qo n qcap db doff dcap z mb s 12 jt jf k h rfl hw 69 (by decide) enters_add { s with a := s.a + s.x } rfl h.going (by have := h.place; have := h.len; show s.place ≤ _; omega) (fun W h => p_add W b _ _ _ s 12 jt jf k s.x h.mach (.inr ⟨by decide, rfl⟩)) _ rfl
theorem does_20 (h : PGoing w b qb qo n qcap db doff dcap z mb s 20 jt jf k) (hw : wrongE 20 k = 0) : StepC w b qb qo n qcap db doff dcap mb (s.does (wordZ z) ⟨20, jt, jf, k⟩) :=
  p_on w b qb qo n qcap db doff dcap z mb s 20 jt jf k h rfl hw 70 (by decide) enters_sub { s with a := s.a - k } rfl h.going (by have := h.place; have := h.len; show s.place ≤ _; omega) (fun W h => p_sub W b _ _ _ s 20 jt jf k k h.mach (.inl ⟨by decide, rfl⟩)) _ rfl
theorem does_28 (h : PGoing w b qb qo n qcap db doff dcap z mb s 28 jt jf k) (hw : wrongE 28 k = 0) : StepC w b qb qo n qcap db doff dcap mb (s.does (wordZ z) ⟨28, jt, jf, k⟩) :=
  p_on w b qb qo n qcap db doff dcap z mb s 28 jt jf k h rfl hw 70 (by decide) enters_sub { s with a := s.a - s.x } rfl h.going (by have := h.place; have := h.len; show s.place ≤ _; omega) (fun W h => p_sub W b _ _ _ s 28 jt jf k s.x h.mach (.inr ⟨by decide, rfl⟩)) _ rfl
theorem does_36 (h : PGoing w b qb qo n qcap db doff dcap z mb s 36 jt jf k) (hw : wrongE 36 k = 0) : StepC w b qb qo n qcap db doff dcap mb (s.does (wordZ z) ⟨36, jt, jf, k⟩) :=
  p_on w b qb qo n qcap db doff dcap z mb s 36 jt jf k h rfl hw 71 (by decide) enters_mul { s with a := s.a * k } rfl h.going (by have := h.place; have := h.len; show s.place ≤ _; omega) (fun W h => p_mul W b _ _ _ s 36 jt jf k k h.mach (.inl ⟨by decide, rfl⟩)) _ rfl
theorem does_44 (h : PGoing w b qb qo n qcap db doff dcap z mb s 44 jt jf k) (hw : wrongE 44 k = 0) : StepC w b qb qo n qcap db doff dcap mb (s.does (wordZ z) ⟨44, jt, jf, k⟩) :=
  p_on w b qb qo n qcap db doff dcap z mb s 44 jt jf k h rfl hw 71 (by decide) enters_mul { s with a := s.a * s.x } rfl h.going (by have := h.place; have := h.len; show s.place ≤ _; omega) (fun W h => p_mul W b _ _ _ s 44 jt jf k s.x h.mach (.inr ⟨by decide, rfl⟩)) _ rfl
theorem does_68 (h : PGoing w b qb qo n qcap db doff dcap z mb s 68 jt jf k) (hw : wrongE 68 k = 0) : StepC w b qb qo n qcap db doff dcap mb (s.does (wordZ z) ⟨68, jt, jf, k⟩) :=
  p_on w b qb qo n qcap db doff dcap z mb s 68 jt jf k h rfl hw 73 (by decide) enters_or { s with a := s.a ||| k } rfl h.going (by have := h.place; have := h.len; show s.place ≤ _; omega) (fun W h => p_or W b _ _ _ s 68 jt jf k k h.mach (.inl ⟨by decide, rfl⟩)) _ rfl
theorem does_76 (h : PGoing w b qb qo n qcap db doff dcap z mb s 76 jt jf k) (hw : wrongE 76 k = 0) : StepC w b qb qo n qcap db doff dcap mb (s.does (wordZ z) ⟨76, jt, jf, k⟩) :=
  p_on w b qb qo n qcap db doff dcap z mb s 76 jt jf k h rfl hw 73 (by decide) enters_or { s with a := s.a ||| s.x } rfl h.going (by have := h.place; have := h.len; show s.place ≤ _; omega) (fun W h => p_or W b _ _ _ s 76 jt jf k s.x h.mach (.inr ⟨by decide, rfl⟩)) _ rfl
theorem does_84 (h : PGoing w b qb qo n qcap db doff dcap z mb s 84 jt jf k) (hw : wrongE 84 k = 0) : StepC w b qb qo n qcap db doff dcap mb (s.does (wordZ z) ⟨84, jt, jf, k⟩) :=
  p_on w b qb qo n qcap db doff dcap z mb s 84 jt jf k h rfl hw 74 (by decide) enters_and { s with a := s.a &&& k } rfl h.going (by have := h.place; have := h.len; show s.place ≤ _; omega) (fun W h => p_and W b _ _ _ s 84 jt jf k k h.mach (.inl ⟨by decide, rfl⟩)) _ rfl
theorem does_92 (h : PGoing w b qb qo n qcap db doff dcap z mb s 92 jt jf k) (hw : wrongE 92 k = 0) : StepC w b qb qo n qcap db doff dcap mb (s.does (wordZ z) ⟨92, jt, jf, k⟩) :=
  p_on w b qb qo n qcap db doff dcap z mb s 92 jt jf k h rfl hw 74 (by decide) enters_and { s with a := s.a &&& s.x } rfl h.going (by have := h.place; have := h.len; show s.place ≤ _; omega) (fun W h => p_and W b _ _ _ s 92 jt jf k s.x h.mach (.inr ⟨by decide, rfl⟩)) _ rfl
theorem does_100 (h : PGoing w b qb qo n qcap db doff dcap z mb s 100 jt jf k) (hw : wrongE 100 k = 0) : StepC w b qb qo n qcap db doff dcap mb (s.does (wordZ z) ⟨100, jt, jf, k⟩) :=
  p_on w b qb qo n qcap db doff dcap z mb s 100 jt jf k h rfl hw 75 (by decide) enters_left { s with a := s.a <<< (k.toNat % 32) } rfl h.going (by have := h.place; have := h.len; show s.place ≤ _; omega) (fun W h => p_left W b _ _ _ s 100 jt jf k k h.mach (.inl ⟨by decide, rfl⟩)) _ rfl
theorem does_108 (h : PGoing w b qb qo n qcap db doff dcap z mb s 108 jt jf k) (hw : wrongE 108 k = 0) : StepC w b qb qo n qcap db doff dcap mb (s.does (wordZ z) ⟨108, jt, jf, k⟩) :=
  p_on w b qb qo n qcap db doff dcap z mb s 108 jt jf k h rfl hw 75 (by decide) enters_left { s with a := s.a <<< (s.x.toNat % 32) } rfl h.going (by have := h.place; have := h.len; show s.place ≤ _; omega) (fun W h => p_left W b _ _ _ s 108 jt jf k s.x h.mach (.inr ⟨by decide, rfl⟩)) _ rfl
theorem does_116 (h : PGoing w b qb qo n qcap db doff dcap z mb s 116 jt jf k) (hw : wrongE 116 k = 0) : StepC w b qb qo n qcap db doff dcap mb (s.does (wordZ z) ⟨116, jt, jf, k⟩) :=
  p_on w b qb qo n qcap db doff dcap z mb s 116 jt jf k h rfl hw 76 (by decide) enters_right { s with a := s.a >>> (k.toNat % 32) } rfl h.going (by have := h.place; have := h.len; show s.place ≤ _; omega) (fun W h => p_right W b _ _ _ s 116 jt jf k k h.mach (.inl ⟨by decide, rfl⟩)) _ rfl
theorem does_124 (h : PGoing w b qb qo n qcap db doff dcap z mb s 124 jt jf k) (hw : wrongE 124 k = 0) : StepC w b qb qo n qcap db doff dcap mb (s.does (wordZ z) ⟨124, jt, jf, k⟩) :=
  p_on w b qb qo n qcap db doff dcap z mb s 124 jt jf k h rfl hw 76 (by decide) enters_right { s with a := s.a >>> (s.x.toNat % 32) } rfl h.going (by have := h.place; have := h.len; show s.place ≤ _; omega) (fun W h => p_right W b _ _ _ s 124 jt jf k s.x h.mach (.inr ⟨by decide, rfl⟩)) _ rfl
theorem does_164 (h : PGoing w b qb qo n qcap db doff dcap z mb s 164 jt jf k) (hw : wrongE 164 k = 0) : StepC w b qb qo n qcap db doff dcap mb (s.does (wordZ z) ⟨164, jt, jf, k⟩) :=
  p_on w b qb qo n qcap db doff dcap z mb s 164 jt jf k h rfl hw 77 (by decide) enters_xor { s with a := s.a ^^^ k } rfl h.going (by have := h.place; have := h.len; show s.place ≤ _; omega) (fun W h => p_xor W b _ _ _ s 164 jt jf k k h.mach (.inl ⟨by decide, rfl⟩)) _ rfl
theorem does_172 (h : PGoing w b qb qo n qcap db doff dcap z mb s 172 jt jf k) (hw : wrongE 172 k = 0) : StepC w b qb qo n qcap db doff dcap mb (s.does (wordZ z) ⟨172, jt, jf, k⟩) :=
  p_on w b qb qo n qcap db doff dcap z mb s 172 jt jf k h rfl hw 77 (by decide) enters_xor { s with a := s.a ^^^ s.x } rfl h.going (by have := h.place; have := h.len; show s.place ≤ _; omega) (fun W h => p_xor W b _ _ _ s 172 jt jf k s.x h.mach (.inr ⟨by decide, rfl⟩)) _ rfl
theorem does_52 (h : PGoing w b qb qo n qcap db doff dcap z mb s 52 jt jf k) (hw : wrongE 52 k = 0) : StepC w b qb qo n qcap db doff dcap mb (s.does (wordZ z) ⟨52, jt, jf, k⟩) :=
  p_on w b qb qo n qcap db doff dcap z mb s 52 jt jf k h rfl hw 72 (by decide) enters_div { s with a := s.a / k } rfl h.going (by have := h.place; have := h.len; show s.place ≤ _; omega) (fun W h => p_div_n W b _ _ _ s 52 jt jf k k h.mach (.inl ⟨by decide, rfl⟩) (wrong_52 hw)) _ rfl
theorem does_60 (h : PGoing w b qb qo n qcap db doff dcap z mb s 60 jt jf k) (hw : wrongE 60 k = 0) : StepC w b qb qo n qcap db doff dcap mb (s.does (wordZ z) ⟨60, jt, jf, k⟩) := by
  by_cases hx : s.x = 0#32
  · exact p_ends w b qb qo n qcap db doff dcap z mb s 60 jt jf k h rfl hw 72 (by decide) enters_div { s with done := true, ans := 0#32 } rfl rfl (fun W h => p_div_0 W b _ _ _ s 60 jt jf k s.x h.mach (.inr ⟨by decide, rfl⟩) hx) _ (by simp [Mach.does, Mach.ends, show aluC 60 = true from rfl, usesX_60, hx])
  · exact p_on w b qb qo n qcap db doff dcap z mb s 60 jt jf k h rfl hw 72 (by decide) enters_div { s with a := s.a / s.x } rfl h.going (by have := h.place; have := h.len; show s.place ≤ _; omega) (fun W h => p_div_n W b _ _ _ s 60 jt jf k s.x h.mach (.inr ⟨by decide, rfl⟩) hx) _ (by simp [Mach.does, show aluC 60 = true from rfl, usesX_60, hx]; rfl)
theorem does_5 (h : PGoing w b qb qo n qcap db doff dcap z mb s 5 jt jf k) (hw : wrongE 5 k = 0) : StepC w b qb qo n qcap db doff dcap mb (s.does (wordZ z) ⟨5, jt, jf, k⟩) :=
  p_on w b qb qo n qcap db doff dcap z mb s 5 jt jf k h rfl hw 79 (by decide) enters_jump { s with place := s.place + k.toNat } rfl h.going (by have := h.place; have := h.len; have := k.isLt; show s.place + k.toNat ≤ _; omega) (fun W h => p_jump W b _ _ _ s 5 jt jf k h.mach (Nat.le_of_lt (Nat.lt_of_lt_of_le h.place h.len))) _ (on_place s k.toNat)
theorem does_6 (h : PGoing w b qb qo n qcap db doff dcap z mb s 6 jt jf k) (hw : wrongE 6 k = 0) : StepC w b qb qo n qcap db doff dcap mb (s.does (wordZ z) ⟨6, jt, jf, k⟩) :=
  p_ends w b qb qo n qcap db doff dcap z mb s 6 jt jf k h rfl hw 84 (by decide) enters_returnConst { s with done := true, ans := k } rfl rfl (fun W h => p_returnConst W b _ _ _ s 6 jt jf k h.mach) _ rfl
theorem does_22 (h : PGoing w b qb qo n qcap db doff dcap z mb s 22 jt jf k) (hw : wrongE 22 k = 0) : StepC w b qb qo n qcap db doff dcap mb (s.does (wordZ z) ⟨22, jt, jf, k⟩) :=
  p_ends w b qb qo n qcap db doff dcap z mb s 22 jt jf k h rfl hw 85 (by decide) enters_returnA { s with done := true, ans := s.a } rfl rfl (fun W h => p_returnA W b _ _ _ s 22 jt jf k h.mach) _ rfl
theorem does_21 (h : PGoing w b qb qo n qcap db doff dcap z mb s 21 jt jf k) (hw : wrongE 21 k = 0) (hjt : jt < 256) (hjf : jf < 256) : StepC w b qb qo n qcap db doff dcap mb (s.does (wordZ z) ⟨21, jt, jf, k⟩) := by
  have e0 : s.does (wordZ z) ⟨21, jt, jf, k⟩ = s.on (1 + (if (s.a == k) = true then jt else jf)) := rfl
  by_cases hq : s.a = k
  · rw [e0, show (s.a == k) = true from beq_iff_eq.2 hq, if_pos rfl]
    exact p_on w b qb qo n qcap db doff dcap z mb s 21 jt jf k h rfl hw 80 (by decide) enters_ifEqual { s with place := s.place + jt } rfl h.going (by have := h.place; have := h.len; show s.place + jt ≤ _; omega) (fun W h => p_ifEqual_t W b _ _ _ s 21 jt jf k h.mach (by rw [hq]; exact (.inl ⟨by decide, rfl⟩)) (Nat.le_of_lt (Nat.lt_of_lt_of_le h.place h.len)) hjt) _ (on_place s jt)
  · rw [e0, show (s.a == k) = false from beq_false_of_ne hq, if_neg (by decide)]
    exact p_on w b qb qo n qcap db doff dcap z mb s 21 jt jf k h rfl hw 80 (by decide) enters_ifEqual { s with place := s.place + jf } rfl h.going (by have := h.place; have := h.len; show s.place + jf ≤ _; omega) (fun W h => p_ifEqual_f W b _ _ _ s 21 jt jf k k h.mach (.inl ⟨by decide, rfl⟩) hq (Nat.le_of_lt (Nat.lt_of_lt_of_le h.place h.len)) hjf) _ (on_place s jf)
theorem does_29 (h : PGoing w b qb qo n qcap db doff dcap z mb s 29 jt jf k) (hw : wrongE 29 k = 0) (hjt : jt < 256) (hjf : jf < 256) : StepC w b qb qo n qcap db doff dcap mb (s.does (wordZ z) ⟨29, jt, jf, k⟩) := by
  have e0 : s.does (wordZ z) ⟨29, jt, jf, k⟩ = s.on (1 + (if (s.a == s.x) = true then jt else jf)) := rfl
  by_cases hq : s.a = s.x
  · rw [e0, show (s.a == s.x) = true from beq_iff_eq.2 hq, if_pos rfl]
    exact p_on w b qb qo n qcap db doff dcap z mb s 29 jt jf k h rfl hw 80 (by decide) enters_ifEqual { s with place := s.place + jt } rfl h.going (by have := h.place; have := h.len; show s.place + jt ≤ _; omega) (fun W h => p_ifEqual_t W b _ _ _ s 29 jt jf k h.mach (by rw [hq]; exact (.inr ⟨by decide, rfl⟩)) (Nat.le_of_lt (Nat.lt_of_lt_of_le h.place h.len)) hjt) _ (on_place s jt)
  · rw [e0, show (s.a == s.x) = false from beq_false_of_ne hq, if_neg (by decide)]
    exact p_on w b qb qo n qcap db doff dcap z mb s 29 jt jf k h rfl hw 80 (by decide) enters_ifEqual { s with place := s.place + jf } rfl h.going (by have := h.place; have := h.len; show s.place + jf ≤ _; omega) (fun W h => p_ifEqual_f W b _ _ _ s 29 jt jf k s.x h.mach (.inr ⟨by decide, rfl⟩) hq (Nat.le_of_lt (Nat.lt_of_lt_of_le h.place h.len)) hjf) _ (on_place s jf)
theorem does_37 (h : PGoing w b qb qo n qcap db doff dcap z mb s 37 jt jf k) (hw : wrongE 37 k = 0) (hjt : jt < 256) (hjf : jf < 256) : StepC w b qb qo n qcap db doff dcap mb (s.does (wordZ z) ⟨37, jt, jf, k⟩) := by
  have e0 : s.does (wordZ z) ⟨37, jt, jf, k⟩ = s.on (1 + (if (decide (k.toNat < s.a.toNat)) = true then jt else jf)) := rfl
  by_cases hq : k.toNat < s.a.toNat
  · rw [e0, show (decide (k.toNat < s.a.toNat)) = true from decide_eq_true hq, if_pos rfl]
    exact p_on w b qb qo n qcap db doff dcap z mb s 37 jt jf k h rfl hw 81 (by decide) enters_ifAbove { s with place := s.place + jt } rfl h.going (by have := h.place; have := h.len; show s.place + jt ≤ _; omega) (fun W h => p_ifAbove_t W b _ _ _ s 37 jt jf k k h.mach (.inl ⟨by decide, rfl⟩) hq (Nat.le_of_lt (Nat.lt_of_lt_of_le h.place h.len)) hjt) _ (on_place s jt)
  · rw [e0, show (decide (k.toNat < s.a.toNat)) = false from decide_eq_false hq, if_neg (by decide)]
    exact p_on w b qb qo n qcap db doff dcap z mb s 37 jt jf k h rfl hw 81 (by decide) enters_ifAbove { s with place := s.place + jf } rfl h.going (by have := h.place; have := h.len; show s.place + jf ≤ _; omega) (fun W h => p_ifAbove_f W b _ _ _ s 37 jt jf k k h.mach (.inl ⟨by decide, rfl⟩) hq (Nat.le_of_lt (Nat.lt_of_lt_of_le h.place h.len)) hjf) _ (on_place s jf)
theorem does_45 (h : PGoing w b qb qo n qcap db doff dcap z mb s 45 jt jf k) (hw : wrongE 45 k = 0) (hjt : jt < 256) (hjf : jf < 256) : StepC w b qb qo n qcap db doff dcap mb (s.does (wordZ z) ⟨45, jt, jf, k⟩) := by
  have e0 : s.does (wordZ z) ⟨45, jt, jf, k⟩ = s.on (1 + (if (decide (s.x.toNat < s.a.toNat)) = true then jt else jf)) := rfl
  by_cases hq : s.x.toNat < s.a.toNat
  · rw [e0, show (decide (s.x.toNat < s.a.toNat)) = true from decide_eq_true hq, if_pos rfl]
    exact p_on w b qb qo n qcap db doff dcap z mb s 45 jt jf k h rfl hw 81 (by decide) enters_ifAbove { s with place := s.place + jt } rfl h.going (by have := h.place; have := h.len; show s.place + jt ≤ _; omega) (fun W h => p_ifAbove_t W b _ _ _ s 45 jt jf k s.x h.mach (.inr ⟨by decide, rfl⟩) hq (Nat.le_of_lt (Nat.lt_of_lt_of_le h.place h.len)) hjt) _ (on_place s jt)
  · rw [e0, show (decide (s.x.toNat < s.a.toNat)) = false from decide_eq_false hq, if_neg (by decide)]
    exact p_on w b qb qo n qcap db doff dcap z mb s 45 jt jf k h rfl hw 81 (by decide) enters_ifAbove { s with place := s.place + jf } rfl h.going (by have := h.place; have := h.len; show s.place + jf ≤ _; omega) (fun W h => p_ifAbove_f W b _ _ _ s 45 jt jf k s.x h.mach (.inr ⟨by decide, rfl⟩) hq (Nat.le_of_lt (Nat.lt_of_lt_of_le h.place h.len)) hjf) _ (on_place s jf)
theorem does_53 (h : PGoing w b qb qo n qcap db doff dcap z mb s 53 jt jf k) (hw : wrongE 53 k = 0) (hjt : jt < 256) (hjf : jf < 256) : StepC w b qb qo n qcap db doff dcap mb (s.does (wordZ z) ⟨53, jt, jf, k⟩) := by
  have e0 : s.does (wordZ z) ⟨53, jt, jf, k⟩ = s.on (1 + (if (decide (k.toNat ≤ s.a.toNat)) = true then jt else jf)) := rfl
  by_cases hq : k.toNat ≤ s.a.toNat
  · rw [e0, show (decide (k.toNat ≤ s.a.toNat)) = true from decide_eq_true hq, if_pos rfl]
    exact p_on w b qb qo n qcap db doff dcap z mb s 53 jt jf k h rfl hw 82 (by decide) enters_ifNotBelow { s with place := s.place + jt } rfl h.going (by have := h.place; have := h.len; show s.place + jt ≤ _; omega) (fun W h => p_ifNotBelow_t W b _ _ _ s 53 jt jf k k h.mach (.inl ⟨by decide, rfl⟩) hq (Nat.le_of_lt (Nat.lt_of_lt_of_le h.place h.len)) hjt) _ (on_place s jt)
  · rw [e0, show (decide (k.toNat ≤ s.a.toNat)) = false from decide_eq_false hq, if_neg (by decide)]
    exact p_on w b qb qo n qcap db doff dcap z mb s 53 jt jf k h rfl hw 82 (by decide) enters_ifNotBelow { s with place := s.place + jf } rfl h.going (by have := h.place; have := h.len; show s.place + jf ≤ _; omega) (fun W h => p_ifNotBelow_f W b _ _ _ s 53 jt jf k k h.mach (.inl ⟨by decide, rfl⟩) hq (Nat.le_of_lt (Nat.lt_of_lt_of_le h.place h.len)) hjf) _ (on_place s jf)
theorem does_61 (h : PGoing w b qb qo n qcap db doff dcap z mb s 61 jt jf k) (hw : wrongE 61 k = 0) (hjt : jt < 256) (hjf : jf < 256) : StepC w b qb qo n qcap db doff dcap mb (s.does (wordZ z) ⟨61, jt, jf, k⟩) := by
  have e0 : s.does (wordZ z) ⟨61, jt, jf, k⟩ = s.on (1 + (if (decide (s.x.toNat ≤ s.a.toNat)) = true then jt else jf)) := rfl
  by_cases hq : s.x.toNat ≤ s.a.toNat
  · rw [e0, show (decide (s.x.toNat ≤ s.a.toNat)) = true from decide_eq_true hq, if_pos rfl]
    exact p_on w b qb qo n qcap db doff dcap z mb s 61 jt jf k h rfl hw 82 (by decide) enters_ifNotBelow { s with place := s.place + jt } rfl h.going (by have := h.place; have := h.len; show s.place + jt ≤ _; omega) (fun W h => p_ifNotBelow_t W b _ _ _ s 61 jt jf k s.x h.mach (.inr ⟨by decide, rfl⟩) hq (Nat.le_of_lt (Nat.lt_of_lt_of_le h.place h.len)) hjt) _ (on_place s jt)
  · rw [e0, show (decide (s.x.toNat ≤ s.a.toNat)) = false from decide_eq_false hq, if_neg (by decide)]
    exact p_on w b qb qo n qcap db doff dcap z mb s 61 jt jf k h rfl hw 82 (by decide) enters_ifNotBelow { s with place := s.place + jf } rfl h.going (by have := h.place; have := h.len; show s.place + jf ≤ _; omega) (fun W h => p_ifNotBelow_f W b _ _ _ s 61 jt jf k s.x h.mach (.inr ⟨by decide, rfl⟩) hq (Nat.le_of_lt (Nat.lt_of_lt_of_le h.place h.len)) hjf) _ (on_place s jf)
theorem does_69 (h : PGoing w b qb qo n qcap db doff dcap z mb s 69 jt jf k) (hw : wrongE 69 k = 0) (hjt : jt < 256) (hjf : jf < 256) : StepC w b qb qo n qcap db doff dcap mb (s.does (wordZ z) ⟨69, jt, jf, k⟩) := by
  have e0 : s.does (wordZ z) ⟨69, jt, jf, k⟩ = s.on (1 + (if (s.a &&& k != 0#32) = true then jt else jf)) := rfl
  by_cases hq : ¬ s.a &&& k = 0#32
  · rw [e0, show (s.a &&& k != 0#32) = true from bne_iff_ne.2 hq, if_pos rfl]
    exact p_on w b qb qo n qcap db doff dcap z mb s 69 jt jf k h rfl hw 83 (by decide) enters_ifCommon { s with place := s.place + jt } rfl h.going (by have := h.place; have := h.len; show s.place + jt ≤ _; omega) (fun W h => p_ifCommon_t W b _ _ _ s 69 jt jf k k h.mach (.inl ⟨by decide, rfl⟩) hq (Nat.le_of_lt (Nat.lt_of_lt_of_le h.place h.len)) hjt) _ (on_place s jt)
  · rw [e0, show (s.a &&& k != 0#32) = false from by simpa using hq, if_neg (by decide)]
    exact p_on w b qb qo n qcap db doff dcap z mb s 69 jt jf k h rfl hw 83 (by decide) enters_ifCommon { s with place := s.place + jf } rfl h.going (by have := h.place; have := h.len; show s.place + jf ≤ _; omega) (fun W h => p_ifCommon_f W b _ _ _ s 69 jt jf k k h.mach (.inl ⟨by decide, rfl⟩) (Classical.not_not.1 hq) (Nat.le_of_lt (Nat.lt_of_lt_of_le h.place h.len)) hjf) _ (on_place s jf)
theorem does_77 (h : PGoing w b qb qo n qcap db doff dcap z mb s 77 jt jf k) (hw : wrongE 77 k = 0) (hjt : jt < 256) (hjf : jf < 256) : StepC w b qb qo n qcap db doff dcap mb (s.does (wordZ z) ⟨77, jt, jf, k⟩) := by
  have e0 : s.does (wordZ z) ⟨77, jt, jf, k⟩ = s.on (1 + (if (s.a &&& s.x != 0#32) = true then jt else jf)) := rfl
  by_cases hq : ¬ s.a &&& s.x = 0#32
  · rw [e0, show (s.a &&& s.x != 0#32) = true from bne_iff_ne.2 hq, if_pos rfl]
    exact p_on w b qb qo n qcap db doff dcap z mb s 77 jt jf k h rfl hw 83 (by decide) enters_ifCommon { s with place := s.place + jt } rfl h.going (by have := h.place; have := h.len; show s.place + jt ≤ _; omega) (fun W h => p_ifCommon_t W b _ _ _ s 77 jt jf k s.x h.mach (.inr ⟨by decide, rfl⟩) hq (Nat.le_of_lt (Nat.lt_of_lt_of_le h.place h.len)) hjt) _ (on_place s jt)
  · rw [e0, show (s.a &&& s.x != 0#32) = false from by simpa using hq, if_neg (by decide)]
    exact p_on w b qb qo n qcap db doff dcap z mb s 77 jt jf k h rfl hw 83 (by decide) enters_ifCommon { s with place := s.place + jf } rfl h.going (by have := h.place; have := h.len; show s.place + jf ≤ _; omega) (fun W h => p_ifCommon_f W b _ _ _ s 77 jt jf k s.x h.mach (.inr ⟨by decide, rfl⟩) (Classical.not_not.1 hq) (Nat.le_of_lt (Nat.lt_of_lt_of_le h.place h.len)) hjf) _ (on_place s jf)
theorem p_does (c : Int) (h : PGoing w b qb qo n qcap db doff dcap z mb s c jt jf k) (hw : wrongE c k = 0) (hjt : jt < 256) (hjf : jf < 256) : StepC w b qb qo n qcap db doff dcap mb (s.does (wordZ z) ⟨c, jt, jf, k⟩) := by
  rcases seals_three hw with ha | ⟨_, hj⟩ | ⟨_, _, hr⟩
  · rcases alu_cases ha with rfl | rfl | rfl | rfl | rfl | rfl | rfl | rfl | rfl | rfl | rfl | rfl | rfl | rfl | rfl | rfl | rfl | rfl
    · exact does_4 w b qb qo n qcap db doff dcap z mb s jt jf k h hw
    · exact does_20 w b qb qo n qcap db doff dcap z mb s jt jf k h hw
    · exact does_36 w b qb qo n qcap db doff dcap z mb s jt jf k h hw
    · exact does_52 w b qb qo n qcap db doff dcap z mb s jt jf k h hw
    · exact does_68 w b qb qo n qcap db doff dcap z mb s jt jf k h hw
    · exact does_84 w b qb qo n qcap db doff dcap z mb s jt jf k h hw
    · exact does_100 w b qb qo n qcap db doff dcap z mb s jt jf k h hw
    · exact does_116 w b qb qo n qcap db doff dcap z mb s jt jf k h hw
    · exact does_164 w b qb qo n qcap db doff dcap z mb s jt jf k h hw
    · exact does_12 w b qb qo n qcap db doff dcap z mb s jt jf k h hw
    · exact does_28 w b qb qo n qcap db doff dcap z mb s jt jf k h hw
    · exact does_44 w b qb qo n qcap db doff dcap z mb s jt jf k h hw
    · exact does_60 w b qb qo n qcap db doff dcap z mb s jt jf k h hw
    · exact does_76 w b qb qo n qcap db doff dcap z mb s jt jf k h hw
    · exact does_92 w b qb qo n qcap db doff dcap z mb s jt jf k h hw
    · exact does_108 w b qb qo n qcap db doff dcap z mb s jt jf k h hw
    · exact does_124 w b qb qo n qcap db doff dcap z mb s jt jf k h hw
    · exact does_172 w b qb qo n qcap db doff dcap z mb s jt jf k h hw
  · rcases jump_cases hj with rfl | rfl | rfl | rfl | rfl | rfl | rfl | rfl
    · exact does_21 w b qb qo n qcap db doff dcap z mb s jt jf k h hw hjt hjf
    · exact does_37 w b qb qo n qcap db doff dcap z mb s jt jf k h hw hjt hjf
    · exact does_53 w b qb qo n qcap db doff dcap z mb s jt jf k h hw hjt hjf
    · exact does_69 w b qb qo n qcap db doff dcap z mb s jt jf k h hw hjt hjf
    · exact does_29 w b qb qo n qcap db doff dcap z mb s jt jf k h hw hjt hjf
    · exact does_45 w b qb qo n qcap db doff dcap z mb s jt jf k h hw hjt hjf
    · exact does_61 w b qb qo n qcap db doff dcap z mb s jt jf k h hw hjt hjf
    · exact does_77 w b qb qo n qcap db doff dcap z mb s jt jf k h hw hjt hjf
  · rcases rest_cases hr with rfl | rfl | rfl | rfl | rfl | rfl | rfl | rfl | rfl | rfl | rfl | rfl | rfl | rfl | rfl
    · exact does_32 w b qb qo n qcap db doff dcap z mb s jt jf k h hw
    · exact does_128 w b qb qo n qcap db doff dcap z mb s jt jf k h hw
    · exact does_129 w b qb qo n qcap db doff dcap z mb s jt jf k h hw
    · exact does_0 w b qb qo n qcap db doff dcap z mb s jt jf k h hw
    · exact does_1 w b qb qo n qcap db doff dcap z mb s jt jf k h hw
    · exact does_96 w b qb qo n qcap db doff dcap z mb s jt jf k h hw
    · exact does_97 w b qb qo n qcap db doff dcap z mb s jt jf k h hw
    · exact does_2 w b qb qo n qcap db doff dcap z mb s jt jf k h hw
    · exact does_3 w b qb qo n qcap db doff dcap z mb s jt jf k h hw
    · exact does_132 w b qb qo n qcap db doff dcap z mb s jt jf k h hw
    · exact does_5 w b qb qo n qcap db doff dcap z mb s jt jf k h hw
    · exact does_6 w b qb qo n qcap db doff dcap z mb s jt jf k h hw
    · exact does_22 w b qb qo n qcap db doff dcap z mb s jt jf k h hw
    · exact does_7 w b qb qo n qcap db doff dcap z mb s jt jf k h hw
    · exact does_135 w b qb qo n qcap db doff dcap z mb s jt jf k h hw
end
theorem p_Step (w : World) (b : Nat) (qa : Option Addr) (n qcap : Nat) (q : Nat → Ins) (da : Option Addr) (dlen dcap : Nat) (z : Nat → Int) (mb : Nat) (s : Mach) (h : PReady w b qa n qcap q da dlen dcap z mb s) :
    Calls Try.prog 22 #[.pointer (some ⟨b, 0, none⟩)] w (PMethP w b (.slice qa n qcap) (.slice da dlen dcap) (.map (some mb)) (s.step q n dlen (wordZ z)).done (s.step q n dlen (wordZ z))) := by
  rcases hd : s.done with _ | _
  · by_cases hl : dlen = 64
    · subst hl
      by_cases hp : n ≤ s.place
      · have e : s.step q n 64 (wordZ z) = s.fails 33 := by simp [Mach.step, hd, hp]
        rw [e]
        exact p_step_fault w b s _ _ _ h.mach hd 33 (by decide) (p_fault_place w b qa n qcap q da dcap z mb s h hp)
      · obtain ⟨db, doff, rfl, hz⟩ := h.data rfl
        obtain ⟨qb, qo, rfl, hql, hc⟩ := h.prog (by omega)
        have hlt : s.place < n := by omega
        have G : PGoing w b qb qo n qcap db doff dcap z mb s (q s.place).code (q s.place).jt (q s.place).jf (q s.place).k := ⟨h.mach, hc _ hlt, hql, hz, hd, hlt, h.len, h.steps, h.ops, h.mfar, (h.ok _ hlt).1, (h.ok _ hlt).2.1⟩
        by_cases hw : wrongE (q s.place).code (q s.place).k = 0
        · have e : s.step q n 64 (wordZ z) = s.does (wordZ z) (q s.place) := by simp [Mach.step, hd, hp, hw]
          rw [e]
          exact p_does w b qb qo n qcap db doff dcap z mb s _ _ _ _ G hw (h.ok _ hlt).2.2.1 (h.ok _ hlt).2.2.2
        · have e : s.step q n 64 (wordZ z) = s.fails (wrongE (q s.place).code (q s.place).k) := by simp [Mach.step, hd, hp, hw]
          rw [e]
          refine p_step_fault w b s _ _ _ h.mach hd _ hw ?_
          rcases hs : sealsC (q s.place).code with _ | _
          · have e2 : wrongE (q s.place).code (q s.place).k = 32 := by rw [wrongE, if_pos hs]
            rw [e2]
            exact p_fault_code w b qb qo n qcap db doff dcap z mb s _ _ _ _ G hs
          · obtain ⟨f, hf⟩ := ops_some hs
            exact p_fault_go w b qb qo n qcap db doff dcap z mb s _ _ _ _ G hs f hf
    · have e : s.step q n dlen (wordZ z) = s.fails 21 := by simp [Mach.step, hd, hl]
      rw [e]
      exact p_step_fault w b s _ _ _ h.mach hd 21 (by decide) (p_fault_len w b qa n qcap q da dlen dcap z mb s h hl)
  · have e : s.step q n dlen (wordZ z) = s := by simp [Mach.step, hd]
    rw [e, hd]
    exact p_step_done w b qa n qcap q da dlen dcap z mb s h hd
end Go.Proofs.Ytgpjiflgocgolaa
