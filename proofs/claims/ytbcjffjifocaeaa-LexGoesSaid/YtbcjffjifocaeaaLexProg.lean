/-
  The program's own calls on a text's tokens, as contracts that the laws of layer 5 stand on. Conditions: those that each names.
-/
import Derived.Test.YtbcjffjifocaeaaPLexList
namespace Go.Proofs.Ytbcjffjifocaeaa
open Go Go.RowKit
set_option linter.unusedSimpArgs false
set_option linter.unusedVariables false

theorem lex_Next (s : ByteArray) (hm : s.size ≤ maxLen) (p : Int) {kind : Int} {text : ByteArray} {num pos next : Nat} {err : Int} (hx : nextF s p = ⟨kind, text, num, pos, next, err⟩) (w : World) :
    Calls Try.prog 10 #[.string s, .int .i64 p] w fun e w' => e = .returned (.tuple #[.agg #[.int .i64 kind, .string text, .int .u64 (num : Int), .int .i64 (pos : Int)], .int .i64 (next : Int), .int .i64 err]) ∧ Below w.heap.size w w' := p_NextAt s p hx w
theorem lst_of {s : ByteArray} {w : World} {e : Ending} {w' : World} (h : ListP s w e w') : LstP s w e w' := by
  rcases h with ⟨h0, v, rfl, ho, hb⟩ | ⟨h0, rfl, hb⟩
  · obtain ⟨A, cap, rfl, ht⟩ := own_tok ho
    have hl : lstF s = (toksF s).1 := if_pos h0
    exact ⟨A, cap, by rw [hl], by rw [hl]; exact ht, hb⟩
  · have hl : lstF s = [] := if_neg h0
    exact ⟨none, 0, by rw [hl]; rfl, fun h => by rw [hl] at h; exact absurd h (by decide), hb⟩
theorem ref_Lst (s : ByteArray) (hm : s.size ≤ maxLen) (w : World) : Calls Try.prog 12 #[.string s] w (LstP s w) := (ref_List s w hm).mono fun _ _ h => lst_of h
theorem lbox_up {B : Nat} (w : World) (o : Obj) (h : B ≤ w.heap.size) : Below B w (w.alloc o) := (Below.refl _ _).alloc h o
/-- A list of one token that was just laid. -/
theorem tok_new (w : World) (B : Nat) (hB : B = w.heap.size) (x : Nx) : TokAt (w.alloc (.cells #[.int .i64 x.kind, .string x.text, .int .u64 (x.num : Int), .int .i64 (x.pos : Int)] 30)) (some ⟨B, 0, none⟩) 1 (fun _ => x) := fun _ => by
  subst hB
  refine ⟨w.heap.size, 0, rfl, by simp, fun i hi => ?_⟩
  obtain rfl : i = 0 := by omega
  exact ⟨by simp, by simp, by simp, by simp⟩
/-- The question's answer. -/
theorem lives_next : nextF ⟨#[32, 48, 120, 49, 102, 59]⟩ 0 = ⟨3, ⟨#[48, 120, 49, 102]⟩, 31, 1, 5, 0⟩ := by kernel_rfl
theorem lives_is (w : World) : Calls Try.prog 8 #[] w fun e w' => e = .returned (.bool true) ∧ Below w.heap.size w w' := by
  have H := Lib.hid (fun w => lex_Next ⟨#[32, 48, 120, 49, 102, 59]⟩ (by decide) 0 lives_next w)
  go_enter Try.func8, Try.ntmps8
  go_wp2_with (go_at_call 10; (with_reducible refine (H.out _).mono ?_); rintro e w' ⟨rfl, hb⟩; have HB := Lib.hid hb; clear hb)
  go_ret
  exact ⟨rfl, HB.out.alloc HB.out.size _⟩
end Go.Proofs.Ytbcjffjifocaeaa
