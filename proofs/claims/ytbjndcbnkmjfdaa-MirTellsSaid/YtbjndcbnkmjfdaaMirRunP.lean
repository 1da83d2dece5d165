/-
  What a whole run of a program of registers leaves; data that may be run over. No condition but those that each names.
-/
import Derived.Test.YtbjndcbnkmjfdaaMirRegs
namespace Go.Proofs.Ytbjndcbnkmjfdaa
open Go Go.RowKit
set_option linter.unusedSimpArgs false
set_option linter.unusedVariables false

/-- Data that may be run over: 64 bytes, where there are so many. -/
def DatAt (w : World) (da : Option Addr) (dlen : Nat) (z : Nat → Int) : Prop := dlen = 64 → ∃ db doff, da = some ⟨db, doff, none⟩ ∧ Bytes64 w db doff z
theorem DatAt.below {w w' : World} {da : Option Addr} {dlen : Nat} {z : Nat → Int} (h : DatAt w da dlen z) (hb : Below w.heap.size w w') : DatAt w' da dlen z := fun e => by
  obtain ⟨db, doff, rfl, hd⟩ := h e
  exact ⟨db, doff, rfl, hd.below hb hd.1⟩
/-- What a whole run leaves. -/
def RunMP (regs : Int) (q : Nat → Irx) (n dlen : Nat) (z : Nat → Int) (w : World) (e : Ending) (w' : World) : Prop := e = .returned (endV (runR regs q n dlen (wordZ z))) ∧ Below w.heap.size w w'
theorem run_wrong {regs : Int} {q : Nat → Irx} {n dlen : Nat} {word : Nat → BitVec 32} (h : chkE regs q n ≠ 0) : runR regs q n dlen word = ⟨0#32, 0, chkE regs q n, chkP regs q n⟩ := by unfold runR; rw [if_pos h]
theorem run_short {regs : Int} {q : Nat → Irx} {n dlen : Nat} {word : Nat → BitVec 32} (h : chkE regs q n = 0) (hd : dlen ≠ 64) : runR regs q n dlen word = ⟨0#32, 0, 21, 0⟩ := by unfold runR; rw [if_neg (fun g => g h), if_pos hd]
theorem run_right {regs : Int} {q : Nat → Irx} {n : Nat} {word : Nat → BitVec 32} (h : chkE regs q n = 0) : runR regs q n 64 word = atM q n (fun i => i) word 0 zeroR := by unfold runR; rw [if_neg (fun g => g h), if_neg (fun g => g rfl)]
end Go.Proofs.Ytbjndcbnkmjfdaa
