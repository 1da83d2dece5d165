/-
  What Store of package word leaves in a row of bytes, and what the document's Store makes: contracts. Conditions: those that each contract names.
-/
import Derived.Test.YtgpjiflgocgolaaWordLoad
import Derived.Test.YtgpjiflgocgolaaMemory
namespace Go.Proofs.Ytgpjiflgocgolaa
open Go Go.RowKit
set_option linter.unusedSimpArgs false
set_option linter.unusedVariables false

/-- Byte i of a number. -/
def byteI (x : Int) (i : Nat) : Int := x / 2 ^ (8 * i) % 256
/-- A row of cells in which k bytes of x have been written from p on. -/
def wrote (F : Nat → Value) (p k : Nat) (x : Int) (j : Nat) : Value := if p ≤ j ∧ j < p + k then .int .u8 (byteI x (j - p)) else F j
theorem wrote_zero (F : Nat → Value) (p : Nat) (x : Int) : wrote F p 0 x = F := by funext j; unfold wrote; rw [if_neg (by omega)]
theorem wrote_step (F : Nat → Value) (p k : Nat) (x : Int) (j : Nat) : (if j = p + k then (.int .u8 (byteI x k) : Value) else wrote F p k x j) = wrote F p (k + 1) x j := by
  unfold wrote
  by_cases h : j = p + k
  · subst h; rw [if_pos rfl, if_pos (by omega), Nat.add_sub_cancel_left]
  · rw [if_neg h]
    by_cases g : p ≤ j ∧ j < p + k
    · rw [if_pos g, if_pos (by omega)]
    · rw [if_neg g, if_neg (by omega)]

/-- Store into a row that the call may write. -/
theorem word_Store (g len cap cap' : Nat) (F : Nat → Value) (p n : Nat) (x : BitVec 64) (w : World) (hl : len ≤ maxLen) (h1 : 1 ≤ n) (h8 : n ≤ 8) (hp : p + n ≤ len) (hlc : len ≤ cap) (hr : w.rowIs g 5 cap F) :
    Calls Try.prog 24 #[.slice (some ⟨g, 0, none⟩) len cap', .int .i64 (p : Int), .int .i64 (n : Int), .int .u64 (x.toNat : Int)] w
      fun e w' => e = .returned (.int .i64 0) ∧ w'.rowIs g 5 cap (wrote F p n (x.toNat : Int)) ∧ w.grownBy w' (some g) := by
  have gi := Lib.hid (word_inBytes_yes (some ⟨g, 0, none⟩) len cap' p n w hl h1 h8 hp)
  have hl' := hl
  unfold maxLen at hl'
  have hx := x.isLt
  go_enter Try.func24, Try.ntmps24
  go_wp2_with (go_at_call 48; refine gi.out.mono ?_; rintro e w' ⟨rfl, rfl⟩)
  go_loopw [9, 16] (fun _ i wr => ∃ k : Nat, k ≤ n ∧ i = .int .i64 (k : Int) ∧ wr.rowIs g 5 cap (wrote F p k (x.toNat : Int)) ∧ w.grownBy wr (some g)) (fun _ i _ => n - (intOf i).toNat)
  case atStart => exact ⟨0, by omega, rfl, by rw [wrote_zero]; exact hr, World.grownBy.refl w _⟩
  case round =>
    obtain ⟨k, hk, rfl, hrow, hgr⟩ := hrel
    by_cases hlt : k < n
    · have hc := hrow.cell (i := p + k) (by omega)
      have hz := hrow.frozen (p + k)
      have HR := Lib.hid hrow
      clear hr hrow
      go_wp2
      go_roundw
      case rel => exact ⟨k + 1, by omega, by go_num, (HR.out.set (p + k) _).congr fun j _ => wrote_step F p k _ j, grown_set hgr _ _⟩
      case measure => simp [intOf]; omega
    · go_wp2
      go_ret
      obtain rfl : k = n := by omega
      exact ⟨rfl, hrow, hgr⟩

theorem info_u8 : (Try.prog.info? 5).map (fun i => (i.zero, i.size, i.bytes)) = some (some (.int .u8 0), 1, 1) := by kernel_rfl

/-- What a call hands back in new memory: a slice of len bytes that read as F says, and nothing that was there is written. -/
def Made (w w' : World) (v : Value) (len : Nat) (F : Nat → Value) : Prop :=
  ∃ g' cap' F', v = .slice (some ⟨g', 0, none⟩) len cap' ∧ w'.rowIs g' 5 cap' F' ∧ len ≤ cap' ∧ cap' ≤ maxLen ∧ (∀ k, k < len → F' k = F k) ∧ Below w.heap.size w w' ∧ w.heap.size ≤ g'

theorem byteI_bd (x : Int) (i : Nat) : 0 ≤ byteI x i ∧ byteI x i < 256 := by unfold byteI; omega
end Go.Proofs.Ytgpjiflgocgolaa
