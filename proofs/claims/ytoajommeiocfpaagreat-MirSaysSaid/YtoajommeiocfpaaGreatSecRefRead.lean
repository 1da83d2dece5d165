/-
  What the document's Read and Word answer (layer 2): contracts over whatever memory holds the bytes. Conditions: those that each contract names.
-/
import Derived.Test.YtoajommeiocfpaaGreatSecRead
namespace Go.Proofs.YtoajommeiocfpaaGreat
open Go Go.RowKit
set_option linter.unusedSimpArgs false
set_option linter.unusedVariables false

theorem ref_ld4 (b off cap : Nat) (z : Nat → Int) (pi : Int) (p : Nat) (hpi : pi = p) (hp : p + 4 ≤ 64) (w : World) (h : Bytes64 w b off z) :
    Calls Tryz.prog 71 #[.slice (some ⟨b, off, none⟩) 64 cap, .int .i64 pi, .int .i64 4] w fun e w' => e = .returned (.tuple #[.int .u64 (w4 z p), .int .i64 0]) ∧ w = w' := by
  subst hpi
  exact ref_Load b off 64 cap (fun j => z (p + j)) p 4 w (by decide) (by decide) (by decide) hp (fun i hi => h.2.2 _ (by omega)) (fun i => h.2.1 _)
theorem wrap_w4 {z : Nat → Int} (hz : ∀ i, 0 ≤ z i ∧ z i < 256) (p : Nat) : IntKind.u32.wrap (w4 z p) = w4 z p := by
  have := w4_bd hz p
  rw [IntKind.wrap_u32]; omega

/-! ### Word -/
theorem ref2_Word (b off cap : Nat) (z : Nat → Int) (p : Nat) (hp : p ≤ 60) (h4 : p % 4 = 0) (w : World) (h : Bytes64 w b off z) :
    Calls Tryz.prog 43 #[.slice (some ⟨b, off, none⟩) 64 cap, .int .i64 (p : Int)] w fun e w' => e = .returned (.tuple #[.int .u32 (w4 z p), .int .i64 0]) ∧ w = w' := by
  have H := Lib.hid h
  have hw := wrap_w4 h.2.1 p
  have h3 : (p : Int) % 4 = 0 := by omega
  have h5 := tmod_four (x := (p : Int)) (by omega)
  have h6 : ¬ 60 < p := by omega
  clear h h4
  go_enter Tryz.func43, Tryz.ntmps43
  go_wp2_with (go_at_call 71; refine (ref_ld4 b off cap z _ p rfl (by omega) _ H.out).mono ?_; rintro e w' ⟨rfl, rfl⟩)
  go_ret2
  exact ⟨rfl, rfl⟩

/-! ### Read -/
end Go.Proofs.YtoajommeiocfpaaGreat
