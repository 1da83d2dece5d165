/-
  What the document's Read and Word answer (layer 2): contracts over whatever memory holds the bytes. Conditions: those that each contract names.
-/
import Derived.Test.YtdmjbiaigjifaaaDoorSecRead
namespace Go.Proofs.YtdmjbiaigjifaaaDoor
open Go Go.RowKit
set_option linter.unusedSimpArgs false
set_option linter.unusedVariables false

theorem ref_ld4 (b off cap : Nat) (z : Nat → Int) (pi : Int) (p : Nat) (hpi : pi = p) (hp : p + 4 ≤ 64) (w : World) (h : Bytes64 w b off z) :
    Calls Tryd.prog 28 #[.slice (some ⟨b, off, none⟩) 64 cap, .int .i64 pi, .int .i64 4] w fun e w' => e = .returned (.tuple #[.int .u64 (w4 z p), .int .i64 0]) ∧ w = w' := by
  subst hpi
  exact ref_Load b off 64 cap (fun j => z (p + j)) p 4 w (by decide) (by decide) (by decide) hp (fun i hi => h.2.2 _ (by omega)) (fun i => h.2.1 _)
theorem ref_ld8 (b off cap : Nat) (z : Nat → Int) (pi : Int) (p : Nat) (hpi : pi = p) (hp : p + 8 ≤ 64) (w : World) (h : Bytes64 w b off z) :
    Calls Tryd.prog 28 #[.slice (some ⟨b, off, none⟩) 64 cap, .int .i64 pi, .int .i64 8] w fun e w' => e = .returned (.tuple #[.int .u64 (w8 z p), .int .i64 0]) ∧ w = w' := by
  subst hpi
  exact ref_Load b off 64 cap (fun j => z (p + j)) p 8 w (by decide) (by decide) (by decide) hp (fun i hi => h.2.2 _ (by omega)) (fun i => h.2.1 _)
theorem rl_nr (b off cap : Nat) (z : Nat → Int) (w : World) (h : Bytes64 w b off z) : Calls Tryd.prog 28 #[.slice (some ⟨b, off, none⟩) 64 cap, .int .i64 0, .int .i64 4] w fun e w' => e = .returned (.tuple #[.int .u64 (w4 z 0), .int .i64 0]) ∧ w = w' := ref_ld4 b off cap z 0 0 rfl (by decide) w h
theorem rl_arch (b off cap : Nat) (z : Nat → Int) (w : World) (h : Bytes64 w b off z) : Calls Tryd.prog 28 #[.slice (some ⟨b, off, none⟩) 64 cap, .int .i64 4, .int .i64 4] w fun e w' => e = .returned (.tuple #[.int .u64 (w4 z 4), .int .i64 0]) ∧ w = w' := ref_ld4 b off cap z 4 4 rfl (by decide) w h
theorem rl_ip (b off cap : Nat) (z : Nat → Int) (w : World) (h : Bytes64 w b off z) : Calls Tryd.prog 28 #[.slice (some ⟨b, off, none⟩) 64 cap, .int .i64 8, .int .i64 8] w fun e w' => e = .returned (.tuple #[.int .u64 (w8 z 8), .int .i64 0]) ∧ w = w' := ref_ld8 b off cap z 8 8 rfl (by decide) w h
theorem rl_arg (b off cap : Nat) (z : Nat → Int) (k : Nat) (hk : k < 6) (w : World) (h : Bytes64 w b off z) : Calls Tryd.prog 28 #[.slice (some ⟨b, off, none⟩) 64 cap, .int .i64 (16 + 8 * (k : Int)), .int .i64 8] w fun e w' => e = .returned (.tuple #[.int .u64 (w8 z (16 + k * 8)), .int .i64 0]) ∧ w = w' := ref_ld8 b off cap z _ (16 + k * 8) (by omega) (by omega) w h
theorem wrap_w4 {z : Nat → Int} (hz : ∀ i, 0 ≤ z i ∧ z i < 256) (p : Nat) : IntKind.u32.wrap (w4 z p) = w4 z p := by
  have := w4_bd hz p
  rw [IntKind.wrap_u32]; omega

/-! ### Word -/
theorem ref2_Word_len (a : Option Addr) (len cap : Nat) (at_ : Int) (h : ¬ len = 64) (w : World) :
    Calls Tryd.prog 16 #[.slice a len cap, .int .i64 at_] w fun e w' => e = .returned (.tuple #[.int .u32 0, .int .i64 21]) ∧ w = w' := by
  have h' : ¬ (len : Int) = 64 := by omega
  go_enter Tryd.func16, Tryd.ntmps16
  go_wp2
  go_ret2
  exact ⟨rfl, rfl⟩
theorem ref2_Word_at (a : Option Addr) (cap : Nat) (at_ : Int) (h : ¬ (0 ≤ at_ ∧ at_ ≤ 60 ∧ at_ % 4 = 0)) (w : World) :
    Calls Tryd.prog 16 #[.slice a 64 cap, .int .i64 at_] w fun e w' => e = .returned (.tuple #[.int .u32 0, .int .i64 22]) ∧ w = w' := by
  by_cases h1 : at_ < 0
  · clear h
    go_enter Tryd.func16, Tryd.ntmps16
    go_wp2
    go_ret2
    exact ⟨rfl, rfl⟩
  · by_cases h2 : 60 < at_
    · clear h
      go_enter Tryd.func16, Tryd.ntmps16
      go_wp2
      go_ret2
      exact ⟨rfl, rfl⟩
    · have h3 : ¬ at_ % 4 = 0 := by omega
      have h4 := tmod_four (x := at_) (by omega)
      clear h
      go_enter Tryd.func16, Tryd.ntmps16
      go_wp2
      go_ret2
      exact ⟨rfl, rfl⟩
theorem ref2_Word (b off cap : Nat) (z : Nat → Int) (p : Nat) (hp : p ≤ 60) (h4 : p % 4 = 0) (w : World) (h : Bytes64 w b off z) :
    Calls Tryd.prog 16 #[.slice (some ⟨b, off, none⟩) 64 cap, .int .i64 (p : Int)] w fun e w' => e = .returned (.tuple #[.int .u32 (w4 z p), .int .i64 0]) ∧ w = w' := by
  have H := Lib.hid h
  have hw := wrap_w4 h.2.1 p
  have h3 : (p : Int) % 4 = 0 := by omega
  have h5 := tmod_four (x := (p : Int)) (by omega)
  have h6 : ¬ 60 < p := by omega
  clear h h4
  go_enter Tryd.func16, Tryd.ntmps16
  go_wp2_with (go_at_call 28; refine (ref_ld4 b off cap z _ p rfl (by omega) _ H.out).mono ?_; rintro e w' ⟨rfl, rfl⟩)
  go_ret2
  exact ⟨rfl, rfl⟩

/-! ### Read -/
theorem ref2_Read_no (a : Option Addr) (len cap : Nat) (h : ¬ len = 64) (w : World) :
    Calls Tryd.prog 14 #[.slice a len cap] w (NoReadP w) := by
  have h' : ¬ (len : Int) = 64 := by omega
  go_enter Tryd.func14, Tryd.ntmps14
  go_wp2
  (try simp only [Exit.inBlock, Exit.then])
  refine bodyPost_ret (v := .tuple #[zeroV, .int .i64 21]) ?_ rfl ⟨rfl, below_box w _⟩
  rw [results_cell_tmp rfl, zeroV]
  go_simp

set_option maxHeartbeats 1000000 in
theorem ref2_Read (b off cap : Nat) (z : Nat → Int) (w : World) (h : Bytes64 w b off z) :
    Calls Tryd.prog 14 #[.slice (some ⟨b, off, none⟩) 64 cap] w (ReadP w z) := by
  have H := Lib.hid h
  have hb := h.1
  have S0 := Lib.hid (reading_start w b off z h)
  have hA : Bytes64 ((w.alloc (.cells #[.int .u32 0, .int .u32 0, .int .u64 0, .int .u64 0, .int .u64 0, .int .u64 0, .int .u64 0, .int .u64 0, .int .u64 0] 26)).alloc (.cells #[.int .u32 0, .int .u32 0, .int .u64 0, .int .u64 0, .int .u64 0, .int .u64 0, .int .u64 0, .int .u64 0, .int .u64 0] 26)) b off z := h.below ((below_box w _).alloc (below_box w _).size _) hb
  have HA := Lib.hid hA
  clear h hA
  go_enter Tryd.func14, Tryd.ntmps14
  have e0 := wrap_w4 H.out.2.1 0
  have e4 := wrap_w4 H.out.2.1 4
  go_wp2_with (first
    | (go_at_call 28; (with_reducible refine (rl_nr b off cap z _ HA.out).mono ?_); rintro e w' ⟨rfl, rfl⟩)
    | (go_at_call 28; (with_reducible refine (rl_arch b off cap z _ HA.out).mono ?_); rintro e w' ⟨rfl, rfl⟩)
    | (go_at_call 28; (with_reducible refine (rl_ip b off cap z _ HA.out).mono ?_); rintro e w' ⟨rfl, rfl⟩))
  go_loopw [11] (fun i wr => ∃ k : Nat, k ≤ 6 ∧ i = .int .i64 (k : Int) ∧ Reading w wr b off z k) (fun i _ => 6 - (intOf i).toNat)
  case atStart => exact ⟨0, by omega, rfl, S0.out⟩
  case round =>
    obtain ⟨k, hk, rfl, hL⟩ := hrel
    clear S0
    have HL := Lib.hid hL
    by_cases hlt : k < 6
    · have hlt' : (k : Int) < 6 := by omega
      have ca := hL.2.1.cell (i := 3 + k) (by omega)
      have cz := hL.2.1.frozen (3 + k)
      have HB := Lib.hid hL.1
      clear hL
      go_wp2_with (go_at_call 28; (with_reducible refine (rl_arg b off cap z k hlt _ HB.out).mono ?_); rintro e w' ⟨rfl, rfl⟩)
      go_roundw
      case rel => exact ⟨k + 1, by omega, by go_num, reading_step HL.out hlt hb⟩
      case measure => simp [intOf]; omega
    · obtain rfl : k = 6 := by omega
      have d0 : wr.cell? ⟨w.heap.size + 1, 0, none⟩ = some (.int .u32 (w4 z 0)) := hL.2.1.cell (i := 0) (by decide)
      have d1 : wr.cell? ⟨w.heap.size + 1, 1, none⟩ = some (.int .u32 (w4 z 4)) := hL.2.1.cell (i := 1) (by decide)
      have d2 : wr.cell? ⟨w.heap.size + 1, 2, none⟩ = some (.int .u64 (w8 z 8)) := hL.2.1.cell (i := 2) (by decide)
      have d3 : wr.cell? ⟨w.heap.size + 1, 3, none⟩ = some (.int .u64 (w8 z 16)) := hL.2.1.cell (i := 3) (by decide)
      have d4 : wr.cell? ⟨w.heap.size + 1, 4, none⟩ = some (.int .u64 (w8 z 24)) := hL.2.1.cell (i := 4) (by decide)
      have d5 : wr.cell? ⟨w.heap.size + 1, 5, none⟩ = some (.int .u64 (w8 z 32)) := hL.2.1.cell (i := 5) (by decide)
      have d6 : wr.cell? ⟨w.heap.size + 1, 6, none⟩ = some (.int .u64 (w8 z 40)) := hL.2.1.cell (i := 6) (by decide)
      have d7 : wr.cell? ⟨w.heap.size + 1, 7, none⟩ = some (.int .u64 (w8 z 48)) := hL.2.1.cell (i := 7) (by decide)
      have d8 : wr.cell? ⟨w.heap.size + 1, 8, none⟩ = some (.int .u64 (w8 z 56)) := hL.2.1.cell (i := 8) (by decide)
      have r0 : wr.cell? ⟨w.heap.size, 0, none⟩ = some (.int .u32 0) := hL.2.2.1.cell (i := 0) (by decide)
      have f0 := hL.2.2.1.frozen 0
      have r1 : wr.cell? ⟨w.heap.size, 1, none⟩ = some (.int .u32 0) := hL.2.2.1.cell (i := 1) (by decide)
      have f1 := hL.2.2.1.frozen 1
      have r2 : wr.cell? ⟨w.heap.size, 2, none⟩ = some (.int .u64 0) := hL.2.2.1.cell (i := 2) (by decide)
      have f2 := hL.2.2.1.frozen 2
      have r3 : wr.cell? ⟨w.heap.size, 3, none⟩ = some (.int .u64 0) := hL.2.2.1.cell (i := 3) (by decide)
      have f3 := hL.2.2.1.frozen 3
      have r4 : wr.cell? ⟨w.heap.size, 4, none⟩ = some (.int .u64 0) := hL.2.2.1.cell (i := 4) (by decide)
      have f4 := hL.2.2.1.frozen 4
      have r5 : wr.cell? ⟨w.heap.size, 5, none⟩ = some (.int .u64 0) := hL.2.2.1.cell (i := 5) (by decide)
      have f5 := hL.2.2.1.frozen 5
      have r6 : wr.cell? ⟨w.heap.size, 6, none⟩ = some (.int .u64 0) := hL.2.2.1.cell (i := 6) (by decide)
      have f6 := hL.2.2.1.frozen 6
      have r7 : wr.cell? ⟨w.heap.size, 7, none⟩ = some (.int .u64 0) := hL.2.2.1.cell (i := 7) (by decide)
      have f7 := hL.2.2.1.frozen 7
      have r8 : wr.cell? ⟨w.heap.size, 8, none⟩ = some (.int .u64 0) := hL.2.2.1.cell (i := 8) (by decide)
      have f8 := hL.2.2.1.frozen 8
      clear hL
      go_wp2
      (try simp only [Exit.inBlock, Exit.then])
      refine bodyPost_ret (v := .tuple #[readV z, .int .i64 0]) ?_ rfl ⟨rfl, below_set9 HL.out.2.2.2 _ _ _ _ _ _ _ _ _⟩
      rw [results_cell_tmp rfl, readV]
      go_simp
end Go.Proofs.YtdmjbiaigjifaaaDoor
