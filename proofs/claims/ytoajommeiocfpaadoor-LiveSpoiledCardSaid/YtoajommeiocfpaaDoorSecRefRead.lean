/-
  What the document's Read and Word answer (layer 2): contracts over whatever memory holds the bytes. Conditions: those that each contract names.
-/
import Derived.Test.YtoajommeiocfpaaDoorSecRead
namespace Go.Proofs.YtoajommeiocfpaaDoor
open Go Go.RowKit
set_option linter.unusedSimpArgs false
set_option linter.unusedVariables false

theorem ref_ld4 (b off cap : Nat) (z : Nat → Int) (pi : Int) (p : Nat) (hpi : pi = p) (hp : p + 4 ≤ 64) (w : World) (h : Bytes64 w b off z) :
    Calls Tryd.prog 46 #[.slice (some ⟨b, off, none⟩) 64 cap, .int .i64 pi, .int .i64 4] w fun e w' => e = .returned (.tuple #[.int .u64 (w4 z p), .int .i64 0]) ∧ w = w' := by
  subst hpi
  exact ref_Load b off 64 cap (fun j => z (p + j)) p 4 w (by decide) (by decide) (by decide) hp (fun i hi => h.2.2 _ (by omega)) (fun i => h.2.1 _)
theorem ref_ld8 (b off cap : Nat) (z : Nat → Int) (pi : Int) (p : Nat) (hpi : pi = p) (hp : p + 8 ≤ 64) (w : World) (h : Bytes64 w b off z) :
    Calls Tryd.prog 46 #[.slice (some ⟨b, off, none⟩) 64 cap, .int .i64 pi, .int .i64 8] w fun e w' => e = .returned (.tuple #[.int .u64 (w8 z p), .int .i64 0]) ∧ w = w' := by
  subst hpi
  exact ref_Load b off 64 cap (fun j => z (p + j)) p 8 w (by decide) (by decide) (by decide) hp (fun i hi => h.2.2 _ (by omega)) (fun i => h.2.1 _)
theorem rl_nr (b off cap : Nat) (z : Nat → Int) (w : World) (h : Bytes64 w b off z) : Calls Tryd.prog 46 #[.slice (some ⟨b, off, none⟩) 64 cap, .int .i64 0, .int .i64 4] w fun e w' => e = .returned (.tuple #[.int .u64 (w4 z 0), .int .i64 0]) ∧ w = w' := ref_ld4 b off cap z 0 0 rfl (by decide) w h
theorem rl_arch (b off cap : Nat) (z : Nat → Int) (w : World) (h : Bytes64 w b off z) : Calls Tryd.prog 46 #[.slice (some ⟨b, off, none⟩) 64 cap, .int .i64 4, .int .i64 4] w fun e w' => e = .returned (.tuple #[.int .u64 (w4 z 4), .int .i64 0]) ∧ w = w' := ref_ld4 b off cap z 4 4 rfl (by decide) w h
theorem rl_ip (b off cap : Nat) (z : Nat → Int) (w : World) (h : Bytes64 w b off z) : Calls Tryd.prog 46 #[.slice (some ⟨b, off, none⟩) 64 cap, .int .i64 8, .int .i64 8] w fun e w' => e = .returned (.tuple #[.int .u64 (w8 z 8), .int .i64 0]) ∧ w = w' := ref_ld8 b off cap z 8 8 rfl (by decide) w h
theorem rl_arg (b off cap : Nat) (z : Nat → Int) (k : Nat) (hk : k < 6) (w : World) (h : Bytes64 w b off z) : Calls Tryd.prog 46 #[.slice (some ⟨b, off, none⟩) 64 cap, .int .i64 (16 + 8 * (k : Int)), .int .i64 8] w fun e w' => e = .returned (.tuple #[.int .u64 (w8 z (16 + k * 8)), .int .i64 0]) ∧ w = w' := ref_ld8 b off cap z _ (16 + k * 8) (by omega) (by omega) w h
theorem wrap_w4 {z : Nat → Int} (hz : ∀ i, 0 ≤ z i ∧ z i < 256) (p : Nat) : IntKind.u32.wrap (w4 z p) = w4 z p := by
  have := w4_bd hz p
  rw [IntKind.wrap_u32]; omega

/-! ### Word -/
theorem ref2_Word_len (a : Option Addr) (len cap : Nat) (at_ : Int) (h : ¬ len = 64) (w : World) :
    Calls Tryd.prog 31 #[.slice a len cap, .int .i64 at_] w fun e w' => e = .returned (.tuple #[.int .u32 0, .int .i64 21]) ∧ w = w' := by
  have h' : ¬ (len : Int) = 64 := by omega
  go_enter Tryd.func31, Tryd.ntmps31
  go_wp2
  go_ret2
  exact ⟨rfl, rfl⟩
theorem ref2_Word_at (a : Option Addr) (cap : Nat) (at_ : Int) (h : ¬ (0 ≤ at_ ∧ at_ ≤ 60 ∧ at_ % 4 = 0)) (w : World) :
    Calls Tryd.prog 31 #[.slice a 64 cap, .int .i64 at_] w fun e w' => e = .returned (.tuple #[.int .u32 0, .int .i64 22]) ∧ w = w' := by
  by_cases h1 : at_ < 0
  · clear h
    go_enter Tryd.func31, Tryd.ntmps31
    go_wp2
    go_ret2
    exact ⟨rfl, rfl⟩
  · by_cases h2 : 60 < at_
    · clear h
      go_enter Tryd.func31, Tryd.ntmps31
      go_wp2
      go_ret2
      exact ⟨rfl, rfl⟩
    · have h3 : ¬ at_ % 4 = 0 := by omega
      have h4 := tmod_four (x := at_) (by omega)
      clear h
      go_enter Tryd.func31, Tryd.ntmps31
      go_wp2
      go_ret2
      exact ⟨rfl, rfl⟩
theorem ref2_Word (b off cap : Nat) (z : Nat → Int) (p : Nat) (hp : p ≤ 60) (h4 : p % 4 = 0) (w : World) (h : Bytes64 w b off z) :
    Calls Tryd.prog 31 #[.slice (some ⟨b, off, none⟩) 64 cap, .int .i64 (p : Int)] w fun e w' => e = .returned (.tuple #[.int .u32 (w4 z p), .int .i64 0]) ∧ w = w' := by
  have H := Lib.hid h
  have hw := wrap_w4 h.2.1 p
  have h3 : (p : Int) % 4 = 0 := by omega
  have h5 := tmod_four (x := (p : Int)) (by omega)
  have h6 : ¬ 60 < p := by omega
  clear h h4
  go_enter Tryd.func31, Tryd.ntmps31
  go_wp2_with (go_at_call 46; refine (ref_ld4 b off cap z _ p rfl (by omega) _ H.out).mono ?_; rintro e w' ⟨rfl, rfl⟩)
  go_ret2
  exact ⟨rfl, rfl⟩

/-! ### Read -/
end Go.Proofs.YtoajommeiocfpaaDoor
