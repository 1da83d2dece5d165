/-
  What Read, Word and Arg of package secdata answer: contracts over whatever memory holds the bytes. Conditions: those that each contract names.
-/
import Derived.Test.YtoajommeiocfpaaGreatSecData
namespace Go.Proofs.YtoajommeiocfpaaGreat
open Go Go.RowKit
set_option linter.unusedSimpArgs false
set_option linter.unusedVariables false

/-- What stands in bytes: a word, a number of eight bytes. -/
def w4 (z : Nat → Int) (p : Nat) : Int := leB (fun j => z (p + j)) 4
def w8 (z : Nat → Int) (p : Nat) : Int := leB (fun j => z (p + j)) 8
theorem w4_bd {z : Nat → Int} (hz : ∀ i, 0 ≤ z i ∧ z i < 256) (p : Nat) : 0 ≤ w4 z p ∧ w4 z p < 4294967296 := by
  have := leB_bd (fun j => z (p + j)) (fun i => hz _) 4
  simpa [w4] using this
/-- 64 bytes of memory. -/
def Bytes64 (w : World) (b off : Nat) (z : Nat → Int) : Prop := b < w.heap.size ∧ (∀ i, 0 ≤ z i ∧ z i < 256) ∧ ∀ i, i < 64 → w.cell? ⟨b, off + i, none⟩ = some (.int .u8 (z i))
theorem Bytes64.below {w w' : World} {B b off : Nat} {z : Nat → Int} (h : Bytes64 w b off z) (hb : Below B w w') (hlt : b < B) : Bytes64 w' b off z :=
  ⟨Nat.lt_of_lt_of_le h.1 hb.size, h.2.1, fun i hi => (hb.cell (p := ⟨b, off + i, none⟩) hlt).trans (h.2.2 i hi)⟩
theorem Bytes64.drawn {w : World} {b off : Nat} {z : Nat → Int} (h : Bytes64 w b off z) (n : Nat) : Bytes64 (w.drewN n) b off z := h
theorem Bytes64.grown {w w' : World} {b off g : Nat} {z : Nat → Int} (h : Bytes64 w b off z) (hb : w.grownBy w' (some g)) (hne : b ≠ g) : Bytes64 w' b off z :=
  have hn : some b ≠ some g := fun e => hne (by injection e)
  ⟨Nat.lt_of_lt_of_le h.1 hb.size, h.2.1, fun i hi => hb.cell (h.2.2 i hi) hn⟩

theorem secdata_wordAt (b off cap : Nat) (z : Nat → Int) (pi : Int) (p : Nat) (hpi : pi = p) (hp : p + 4 ≤ 64) (w : World) (h : Bytes64 w b off z) :
    Calls Tryz.prog 119 #[.slice (some ⟨b, off, none⟩) 64 cap, .int .i64 pi] w fun e w' => e = .returned (.int .u32 (w4 z p)) ∧ w = w' := by
  subst hpi
  have hw : IntKind.u32.wrap (leB (fun j => z (p + j)) 4) = w4 z p := by
    have := w4_bd h.2.1 p
    unfold w4 at *
    rw [IntKind.wrap_u32]; omega
  have H := Lib.hid h
  clear h
  go_enter Tryz.func119, Tryz.ntmps119
  go_wp2_with (go_at_call 124; refine (word_Load b off 64 cap (fun j => z (p + j)) p 4 _ (by decide) (by decide) (by decide) hp (fun i hi => H.out.2.2 _ (by omega)) (fun i => H.out.2.1 _)).mono ?_; rintro e w' ⟨rfl, rfl⟩)
  go_ret
  exact ⟨rfl, rfl⟩

/-! ### Word, Arg -/
theorem tmod_four {x : Int} (h : 0 ≤ x) : x.tmod 4 = x % 4 := Int.tmod_eq_emod_of_nonneg h
theorem secdata_Word_at (a : Option Addr) (cap : Nat) (at_ : Int) (h : ¬ (0 ≤ at_ ∧ at_ ≤ 60 ∧ at_ % 4 = 0)) (w : World) :
    Calls Tryz.prog 76 #[.slice a 64 cap, .int .i64 at_] w fun e w' => e = .returned (.tuple #[.int .u32 0, .int .i64 22]) ∧ w = w' := by
  by_cases h1 : at_ < 0
  · clear h
    go_enter Tryz.func76, Tryz.ntmps76
    go_wp2
    go_ret2
    exact ⟨rfl, rfl⟩
  · by_cases h2 : 64 ≤ at_
    · clear h
      go_enter Tryz.func76, Tryz.ntmps76
      go_wp2
      go_ret2
      exact ⟨rfl, rfl⟩
    · have h3 : ¬ at_ % 4 = 0 := by omega
      have h4 := tmod_four (x := at_) (by omega)
      clear h
      go_enter Tryz.func76, Tryz.ntmps76
      go_wp2
      go_ret2
      exact ⟨rfl, rfl⟩
theorem secdata_Word (b off cap : Nat) (z : Nat → Int) (p : Nat) (hp : p ≤ 60) (h4 : p % 4 = 0) (w : World) (h : Bytes64 w b off z) :
    Calls Tryz.prog 76 #[.slice (some ⟨b, off, none⟩) 64 cap, .int .i64 (p : Int)] w fun e w' => e = .returned (.tuple #[.int .u32 (w4 z p), .int .i64 0]) ∧ w = w' := by
  have H := Lib.hid h
  have h3 : (p : Int) % 4 = 0 := by omega
  have h5 := tmod_four (x := (p : Int)) (by omega)
  have h6 : ¬ 64 ≤ p := by omega
  clear h h4
  go_enter Tryz.func76, Tryz.ntmps76
  go_wp2_with (go_at_call 119; refine (secdata_wordAt b off cap z _ p rfl (by omega) _ H.out).mono ?_; rintro e w' ⟨rfl, rfl⟩)
  go_ret2
  exact ⟨rfl, rfl⟩

/-! ### Read -/
end Go.Proofs.YtoajommeiocfpaaGreat
