/-
  What the document's Step of classic BPF does to its machine: a contract, for every program and all data. Conditions: those that it names.
-/
import Derived.Test.YtoajommeiocfpaaGreatCbpfMoves
namespace Go.Proofs.YtoajommeiocfpaaGreat
open Go Go.RowKit
set_option linter.unusedSimpArgs false
set_option linter.unusedVariables false

/-- Instruction i's four cells. -/
def InsCells (w : World) (b o : Nat) (i : Ins) : Prop := w.cell? ⟨b, o, none⟩ = some (.int .u16 i.code) ∧ w.cell? ⟨b, o + 1, none⟩ = some (.int .u8 (i.jt : Int)) ∧ w.cell? ⟨b, o + 2, none⟩ = some (.int .u8 (i.jf : Int)) ∧ w.cell? ⟨b, o + 3, none⟩ = some (.int .u32 (i.k.toNat : Int))
theorem InsCells.below {w w' : World} {B b o : Nat} {i : Ins} (h : InsCells w b o i) (hb : Below B w w') (hlt : b < B) : InsCells w' b o i :=
  ⟨(hb.cell (p := ⟨b, o, none⟩) hlt).trans h.1, (hb.cell (p := ⟨b, o + 1, none⟩) hlt).trans h.2.1, (hb.cell (p := ⟨b, o + 2, none⟩) hlt).trans h.2.2.1, (hb.cell (p := ⟨b, o + 3, none⟩) hlt).trans h.2.2.2⟩
theorem InsCells.grown {w w' : World} {b g o : Nat} {i : Ins} (h : InsCells w b o i) (hb : w.grownBy w' (some g)) (hne : b ≠ g) : InsCells w' b o i :=
  have hn : some b ≠ some g := fun e => hne (by injection e)
  ⟨hb.cell h.1 hn, hb.cell h.2.1 hn, hb.cell h.2.2.1 hn, hb.cell h.2.2.2 hn⟩
/-- A program's n instructions lie from A on. -/
def ProgAt (w : World) (A : Option Addr) (n : Nat) (q : Nat → Ins) : Prop := 0 < n → ∃ qb qo, A = some ⟨qb, qo, none⟩ ∧ qb < w.heap.size ∧ ∀ i, i < n → InsCells w qb (qo + i * 4) (q i)
theorem ProgAt.below {w w' : World} {A : Option Addr} {n : Nat} {q : Nat → Ins} (h : ProgAt w A n q) (hb : Below w.heap.size w w') : ProgAt w' A n q := fun hn => by
  obtain ⟨qb, qo, rfl, hl, hc⟩ := h hn
  exact ⟨qb, qo, rfl, Nat.lt_of_lt_of_le hl hb.size, fun i hi => (hc i hi).below hb hl⟩
theorem ProgAt.grown {w w' : World} {A : Option Addr} {n g : Nat} {q : Nat → Ins} (h : ProgAt w A n q) (hb : w.grownBy w' (some g)) (hne : ∀ ad, 0 < n → A = some ad → ad.block ≠ g) : ProgAt w' A n q := fun hn => by
  obtain ⟨qb, qo, rfl, hl, hc⟩ := h hn
  exact ⟨qb, qo, rfl, Nat.lt_of_lt_of_le hl hb.size, fun i hi => (hc i hi).grown hb (hne _ hn rfl)⟩

/-- A machine, its program and its data, ahead of a step. -/
structure Ready (w : World) (b : Nat) (qa : Option Addr) (n qcap : Nat) (q : Nat → Ins) (da : Option Addr) (dlen dcap : Nat) (z : Nat → Int) (s : Mach) : Prop where
  mach : MachAt w b (.slice qa n qcap) (.slice da dlen dcap) s
  prog : ProgAt w qa n q
  data : dlen = 64 → ∃ db doff, da = some ⟨db, doff, none⟩ ∧ Bytes64 w db doff z
  qfar : ∀ ad, 0 < n → qa = some ad → ad.block ≠ b
  dfar : ∀ ad, dlen = 64 → da = some ad → ad.block ≠ b
  len : n ≤ 140737488351232
  ok : ∀ i, i < n → (q i).OK
  steps : s.steps < 1000000000000000000
/-- Behind a step: what was written is the machine's block alone. -/
theorem Ready.after {w w' : World} {b : Nat} {qa : Option Addr} {n qcap : Nat} {q : Nat → Ins} {da : Option Addr} {dlen dcap : Nat} {z : Nat → Int} {s s' : Mach} (h : Ready w b qa n qcap q da dlen dcap z s)
    (hm : MachAt w' b (.slice qa n qcap) (.slice da dlen dcap) s') (hg : w.grownBy w' (some b)) (hs : s'.steps < 1000000000000000000) : Ready w' b qa n qcap q da dlen dcap z s' :=
  ⟨hm, h.prog.grown hg h.qfar, fun h64 => by
    obtain ⟨db, doff, rfl, hb⟩ := h.data h64
    exact ⟨db, doff, rfl, hb.grown hg (h.dfar _ h64 rfl)⟩, h.qfar, h.dfar, h.len, h.ok, hs⟩

section
variable (w : World) (b : Nat) (qa : Option Addr) (n qcap : Nat) (q : Nat → Ins) (da : Option Addr) (dlen dcap : Nat) (z : Nat → Int) (s : Mach)

theorem step_done (h : Ready w b qa n qcap q da dlen dcap z s) (hd : s.done = true) :
    Calls Tryz.prog 15 #[.pointer (some ⟨b, 0, none⟩)] w (MethP w b (.slice qa n qcap) (.slice da dlen dcap) true s) := by
  have c22 : w.cell? ⟨b, 22, none⟩ = some (.bool true) := by have := World.rowIs.cell h.mach (i := 22) (by decide); rw [this]; exact congrArg (fun x => some (Value.bool x)) hd
  have H := Lib.hid h.mach
  clear h hd
  go_enter Tryz.func15, Tryz.ntmps15
  go_wp2
  go_ret
  exact ⟨rfl, H.out, World.grownBy.refl w _⟩

theorem step_len (h : Ready w b qa n qcap q da dlen dcap z s) (hd : s.done = false) (hl : ¬ dlen = 64) :
    Calls Tryz.prog 15 #[.pointer (some ⟨b, 0, none⟩)] w (MethP w b (.slice qa n qcap) (.slice da dlen dcap) true (s.fails 21)) := by
  have c22 : w.cell? ⟨b, 22, none⟩ = some (.bool false) := by have := World.rowIs.cell h.mach (i := 22) (by decide); rw [this]; exact congrArg (fun x => some (Value.bool x)) hd
  have c1 : w.cell? ⟨b, 1, none⟩ = some (.slice da dlen dcap) := World.rowIs.cell h.mach (i := 1) (by decide)
  have hl' : ¬ (dlen : Int) = 64 := by omega
  have H := Lib.hid h.mach
  clear h hd hl
  go_enter Tryz.func15, Tryz.ntmps15
  go_wp2_with (go_at_call 33; (with_reducible refine (ref_fails _ _ _ _ _ _ H.out).mono ?_); rintro e w1 ⟨rfl, hm, hg⟩; have HM := Lib.hid (And.intro hm hg); clear hm hg)
  go_ret
  exact ⟨rfl, HM.out.1, HM.out.2⟩

theorem step_place (h : Ready w b qa n qcap q da 64 dcap z s) (hd : s.done = false) (hp : n ≤ s.place) :
    Calls Tryz.prog 15 #[.pointer (some ⟨b, 0, none⟩)] w (MethP w b (.slice qa n qcap) (.slice da 64 dcap) true (s.fails 33)) := by
  have c22 : w.cell? ⟨b, 22, none⟩ = some (.bool false) := by have := World.rowIs.cell h.mach (i := 22) (by decide); rw [this]; exact congrArg (fun x => some (Value.bool x)) hd
  have c1 : w.cell? ⟨b, 1, none⟩ = some (.slice da 64 dcap) := World.rowIs.cell h.mach (i := 1) (by decide)
  have c0 : w.cell? ⟨b, 0, none⟩ = some (.slice qa n qcap) := World.rowIs.cell h.mach (i := 0) (by decide)
  have c20 : w.cell? ⟨b, 20, none⟩ = some (.int .i64 (s.place : Int)) := World.rowIs.cell h.mach (i := 20) (by decide)
  have hp' : (n : Int) ≤ (s.place : Int) := by omega
  have H := Lib.hid h.mach
  clear h hd hp
  go_enter Tryz.func15, Tryz.ntmps15
  go_wp2
  go_quiet (fail)
  go_wp2_with (go_at_call 33; (with_reducible refine (ref_fails _ _ _ _ _ _ (H.out.drawn _)).mono ?_); rintro e w1 ⟨rfl, hm, hg⟩; have HM := Lib.hid (And.intro hm hg); clear hm hg)
  go_ret
  exact ⟨rfl, HM.out.1, grown_trans (grown_drawn (World.grownBy.refl w _) _) HM.out.2⟩
end
end Go.Proofs.YtoajommeiocfpaaGreat
