/-
  What '==' says of two data. No condition.
-/
import Derived.Test.YtdmjbiaigjifaaaDoorChecked
import Derived.WalkKit
import Derived.Laws.StructEq
import Derived.KernelRfl
import Derived.Below
namespace Go.Proofs.YtdmjbiaigjifaaaDoor
open Go
set_option linter.unusedSimpArgs false

theorem eq_six (x0 x1 x2 x3 x4 x5 y0 y1 y2 y3 y4 y5 : Int) (w : World) :
    (Op.equalIn 9999 24 (.agg #[.int .u64 x0, .int .u64 x1, .int .u64 x2, .int .u64 x3, .int .u64 x4, .int .u64 x5]) (.agg #[.int .u64 y0, .int .u64 y1, .int .u64 y2, .int .u64 y3, .int .u64 y4, .int .u64 y5])).run Tryd.prog w
      = .ok (decide (x0 = y0 ∧ x1 = y1 ∧ x2 = y2 ∧ x3 = y3 ∧ x4 = y4 ∧ x5 = y5)) w := by
  rw [show (9999 : Nat) = 9998 + 1 from rfl, Op.equalIn]
  simp only [Sem.run_bind, run_underlying Tryd.underlying24, Result.andThen_ok]
  simp only [Std.Legacy.Range.forIn_eq_forIn_range', Std.Legacy.Range.size, Nat.sub_zero, Nat.add_sub_cancel, Nat.div_one, List.range'_succ, List.range'_zero, List.forIn_cons, List.forIn_nil]
  go_simp
  by_cases h0 : x0 = y0
  · by_cases h1 : x1 = y1
    · by_cases h2 : x2 = y2
      · by_cases h3 : x3 = y3
        · by_cases h4 : x4 = y4
          · by_cases h5 : x5 = y5 <;> simp [h0, h1, h2, h3, h4, h5]
          · simp [h0, h1, h2, h3, h4]
        · simp [h0, h1, h2, h3]
      · simp [h0, h1, h2]
    · simp [h0, h1]
  · simp [h0]

theorem eq_data (nr arch ip x0 x1 x2 x3 x4 x5 nr' arch' ip' y0 y1 y2 y3 y4 y5 : Int) (w : World) :
    (binOp .eql 26 (.agg #[.int .u32 nr, .int .u32 arch, .int .u64 ip, .int .u64 x0, .int .u64 x1, .int .u64 x2, .int .u64 x3, .int .u64 x4, .int .u64 x5]) (.agg #[.int .u32 nr', .int .u32 arch', .int .u64 ip', .int .u64 y0, .int .u64 y1, .int .u64 y2, .int .u64 y3, .int .u64 y4, .int .u64 y5])).run Tryd.prog w
      = .ok (.bool (decide (nr = nr' ∧ arch = arch' ∧ ip = ip' ∧ x0 = y0 ∧ x1 = y1 ∧ x2 = y2 ∧ x3 = y3 ∧ x4 = y4 ∧ x5 = y5))) w := by
  have fin : ∀ b : Bool, (b = true ↔ (nr = nr' ∧ arch = arch' ∧ ip = ip' ∧ x0 = y0 ∧ x1 = y1 ∧ x2 = y2 ∧ x3 = y3 ∧ x4 = y4 ∧ x5 = y5)) →
      Result.ok (Value.bool b) w = Result.ok (Value.bool (decide (nr = nr' ∧ arch = arch' ∧ ip = ip' ∧ x0 = y0 ∧ x1 = y1 ∧ x2 = y2 ∧ x3 = y3 ∧ x4 = y4 ∧ x5 = y5))) w := fun b h => by
    have : b = decide (nr = nr' ∧ arch = arch' ∧ ip = ip' ∧ x0 = y0 ∧ x1 = y1 ∧ x2 = y2 ∧ x3 = y3 ∧ x4 = y4 ∧ x5 = y5) := by rw [Bool.eq_iff_iff, decide_eq_true_iff]; exact h
    rw [this]
  generalize decide (nr = nr' ∧ arch = arch' ∧ ip = ip' ∧ x0 = y0 ∧ x1 = y1 ∧ x2 = y2 ∧ x3 = y3 ∧ x4 = y4 ∧ x5 = y5) = D at fin ⊢
  by_cases h3 : x0 = y0 ∧ x1 = y1 ∧ x2 = y2 ∧ x3 = y3 ∧ x4 = y4 ∧ x5 = y5
  · have key := fun w => eq_six x0 x1 x2 x3 x4 x5 y0 y1 y2 y3 y4 y5 w
    rw [decide_eq_true h3] at key
    have H3 : RowKit.Hid (x0 = y0 ∧ x1 = y1 ∧ x2 = y2 ∧ x3 = y3 ∧ x4 = y4 ∧ x5 = y5) := h3
    have F : RowKit.Hid (∀ b : Bool, (b = true ↔ (nr = nr' ∧ arch = arch' ∧ ip = ip' ∧ x0 = y0 ∧ x1 = y1 ∧ x2 = y2 ∧ x3 = y3 ∧ x4 = y4 ∧ x5 = y5)) → Result.ok (Value.bool b) w = Result.ok (Value.bool D) w) := fin
    clear h3 fin
    go_simp
    by_cases h0 : nr = nr'
    · by_cases h1 : arch = arch'
      · by_cases h2 : ip = ip'
        · simp only [h0, h1, h2, if_true]
          exact F.out true (by simp only [true_iff]; exact ⟨h0, h1, h2, H3.out⟩)
        · simp only [h0, h1, h2, if_true, if_false]
          exact F.out false (by simp [h2])
      · simp only [h0, h1, if_true, if_false]
        exact F.out false (by simp [h1])
    · simp only [h0, if_false]
      exact F.out false (by simp [h0])
  · have key := fun w => eq_six x0 x1 x2 x3 x4 x5 y0 y1 y2 y3 y4 y5 w
    rw [decide_eq_false h3] at key
    have h4 := fin false ⟨fun h => Bool.noConfusion h, fun h => absurd h.2.2.2 h3⟩
    have H4 : RowKit.Hid (Result.ok (Value.bool false) w = Result.ok (Value.bool D) w) := h4
    clear h3 fin h4
    go_simp
    have h5 := H4.out
    simp only [Result.ok.injEq, Value.bool.injEq, and_true] at h5
    exact h5.symm

theorem ne_same (nr arch ip x0 x1 x2 x3 x4 x5 : Int) (w : World) :
    (binOp .neq 26 (.agg #[.int .u32 nr, .int .u32 arch, .int .u64 ip, .int .u64 x0, .int .u64 x1, .int .u64 x2, .int .u64 x3, .int .u64 x4, .int .u64 x5]) (.agg #[.int .u32 nr, .int .u32 arch, .int .u64 ip, .int .u64 x0, .int .u64 x1, .int .u64 x2, .int .u64 x3, .int .u64 x4, .int .u64 x5])).run Tryd.prog w = .ok (.bool false) w := by
  have key : ∀ w, (Op.equalIn 9999 24 (.agg #[.int .u64 x0, .int .u64 x1, .int .u64 x2, .int .u64 x3, .int .u64 x4, .int .u64 x5]) (.agg #[.int .u64 x0, .int .u64 x1, .int .u64 x2, .int .u64 x3, .int .u64 x4, .int .u64 x5])).run Tryd.prog w = .ok true w := fun w => by
    rw [eq_six, decide_eq_true ⟨rfl, rfl, rfl, rfl, rfl, rfl⟩]
  go_simp
end Go.Proofs.YtdmjbiaigjifaaaDoor
