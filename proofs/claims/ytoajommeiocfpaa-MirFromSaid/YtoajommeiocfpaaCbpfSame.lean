/-
  The document's Same of two programs of classic BPF that are the same: a contract. Conditions: those that it names.
-/
import Derived.Test.YtoajommeiocfpaaCbpfRun
import Derived.Test.YtoajommeiocfpaaDataEq
namespace Go.Proofs.Ytoajommeiocfpaa
open Go Go.RowKit
set_option linter.unusedSimpArgs false
set_option linter.unusedVariables false

theorem drewN_add (w : World) (m k : Nat) : (w.drewN m).drewN k = w.drewN (m + k) := by
  simp [World.drewN, Nat.add_assoc]
theorem ProgAt.drawn {w : World} {A : Option Addr} {n : Nat} {q : Nat → Ins} (h : ProgAt w A n q) (m : Nat) : ProgAt (w.drewN m) A n q := h
set_option maxHeartbeats 2000000 in
theorem ref_Same (w : World) (A A' : Option Addr) (n cap cap' : Nat) (q : Nat → Ins) (hn : n ≤ 140737488351232) (h : ProgAt w A n q) (h' : ProgAt w A' n q) :
    Calls Try.prog 14 #[.slice A n cap, .slice A' n cap'] w fun e w' => e = .returned (.bool true) ∧ ∃ m, w' = w.drewN m := by
  have HP := Lib.hid (And.intro h h')
  clear h h'
  go_enter Try.func14, Try.ntmps14
  go_wp2
  go_loopw [5] (fun i wr => ∃ k : Nat, k ≤ n ∧ i = .int .i64 (k : Int) ∧ ∃ m, wr = w.drewN m) (fun i _ => n - (intOf i).toNat)
  case atStart => exact ⟨0, by omega, rfl, 0, rfl⟩
  case round =>
    obtain ⟨k, hk, rfl, m, rfl⟩ := hrel
    by_cases hlt : k < n
    · have hlt' : (k : Int) < (n : Int) := by omega
      obtain ⟨b, o, rfl, hl, hc⟩ := (HP.out.1.drawn m) (by omega)
      obtain ⟨b', o', rfl, hl', hc'⟩ := (HP.out.2.drawn m) (by omega)
      obtain ⟨x0, x1, x2, x3⟩ := hc k hlt
      obtain ⟨y0, y1, y2, y3⟩ := hc' k hlt
      have HC := Lib.hid (And.intro hc hc')
      clear hc hc'
      have hW : ∃ W, W = w.drewN m := ⟨_, rfl⟩
      obtain ⟨W, hW⟩ := hW
      rw [← hW] at x0 x1 x2 x3 y0 y1 y2 y3 hl hl' ⊢
      have HW := Lib.hid hW
      clear hW
      -- x1 x2 x3 y0 y1 y2 y3 hl hl' ⊢
      go_wp2
      go_quiet (fail)
      go_wp2
      exact ⟨⟨k + 1, by omega, by go_num, m + nq, by rw [HW.out, drewN_add]⟩, by simp [intOf]; omega⟩
    · go_wp2
      go_ret
      exact ⟨rfl, m, rfl⟩
end Go.Proofs.Ytoajommeiocfpaa
