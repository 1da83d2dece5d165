/-
  'WordFits': for every number and every list of numbers of bits, the law of layer 1 on Fits returns true, and leaves memory as it was. No condition.
-/
import Derived.Test.YtchddecnglcemaaWordLoad
import Derived.Test.YtchddecnglcemaaFrame
namespace Go.Proofs.Ytchddecnglcemaa.wordFits
open Go Go.ChangeShapes Go.WideShapes Go.ChangeAt Go.RowKit
set_option linter.unusedSimpArgs false
set_option linter.unusedVariables false

set_option maxHeartbeats 400000 in
theorem walk_some (v : BitVec 64) (b off len cap : Nat) (z : Nat → Int) (w : World) (hm : len ≤ maxLen) (hc : ∀ i, i < len → w.cell? ⟨b, off + i, none⟩ = some (.int .i64 (z i))) (hb : len ≠ 0 → b < w.heap.size) :
    Calls Try.prog 4 #[.int .i64 v.toInt, .slice (some ⟨b, off, none⟩) len cap] w fun e w' => e = .returned (.bool true) ∧ Below w.heap.size w w' := by
  unfold maxLen at hm
  go_enter Try.func4, Try.ntmps4
  go_wp2_with (go_at_call 10; refine (head_true _).mono ?_; rintro e w' ⟨rfl, hbel⟩)
  go_loopw [6] (fun i wr => ∃ k : Nat, k ≤ len ∧ i = .int .i64 (k : Int) ∧ Below w.heap.size w wr) (fun i _ => len - (intOf i).toNat)
  case atStart => exact ⟨0, by omega, rfl, hbel⟩
  case round =>
    obtain ⟨k, hk, rfl, hbr⟩ := hrel
    by_cases hlt : k < len
    · have hck := (hbr.cell (p := ⟨b, off + k, none⟩) (hb (by omega))).trans (hc k hlt)
      clear hc
      have hlt' : (k : Int) < (len : Int) := by omega
      have hw := wrapU_toInt v
      have hq2 : (!fitsB v (z k) == ((sext v (z k)).toInt == v.toInt)) = false := by rw [eq_toInt, fitsB]; simp
      by_cases h1 : 1 ≤ z k
      · by_cases h2 : z k ≤ 64
        · go_wp2
          go_quiet (first | (go_at_call 19; exact quietL (word_Fits _ _ _)) | (go_at_call 20; exact quietL (ref_Fits _ _ _)) | (go_at_call 13; exact quietL (word_Sext _ _ _)))
          go_wp2
          go_quiet (first | (go_at_call 19; exact quietA (word_Fits _ _ _)) | (go_at_call 13; exact quietA (word_Sext _ _ _)))
          go_wp2
          go_roundw
          case rel => exact ⟨k + 1, by omega, by go_num, below_drawn hbr _⟩
          case measure => simp [intOf]; omega
        · have hd2 : decide (z k ≤ 64) = false := by simpa using h2
          go_wp2
          go_quiet (first | (go_at_call 19; exact quietL (word_Fits _ _ _)) | (go_at_call 20; exact quietL (ref_Fits _ _ _)) | (go_at_call 13; exact quietL (word_Sext _ _ _)))
          go_wp2
          go_quiet (first | (go_at_call 19; exact quietA (word_Fits _ _ _)) | (go_at_call 13; exact quietA (word_Sext _ _ _)))
          go_wp2
          go_roundw
          case rel => exact ⟨k + 1, by omega, by go_num, below_drawn hbr _⟩
          case measure => simp [intOf]; omega
      · have hd1 : decide (1 ≤ z k) = false := by simpa using h1
        go_wp2
        go_quiet (first | (go_at_call 19; exact quietL (word_Fits _ _ _)) | (go_at_call 20; exact quietL (ref_Fits _ _ _)) | (go_at_call 13; exact quietL (word_Sext _ _ _)))
        go_wp2
        go_quiet (first | (go_at_call 19; exact quietA (word_Fits _ _ _)) | (go_at_call 13; exact quietA (word_Sext _ _ _)))
        go_wp2
        go_roundw
        case rel => exact ⟨k + 1, by omega, by go_num, below_drawn hbr _⟩
        case measure => simp [intOf]; omega
    · go_wp2
      go_ret
      exact ⟨rfl, hbr⟩

set_option maxHeartbeats 400000 in
theorem walk_none (v : BitVec 64) (a : Option Addr) (cap : Nat) (w : World) :
    Calls Try.prog 4 #[.int .i64 v.toInt, .slice a 0 cap] w fun e w' => e = .returned (.bool true) ∧ Below w.heap.size w w' := by
  go_enter Try.func4, Try.ntmps4
  go_wp2_with (go_at_call 10; refine (head_true _).mono ?_; rintro e w' ⟨rfl, hbel⟩)
  go_loopw [6] (fun i wr => i = .int .i64 0 ∧ Below w.heap.size w wr) (fun i _ => 0)
  case atStart => exact ⟨rfl, hbel⟩
  case round =>
    obtain ⟨rfl, hbr⟩ := hrel
    go_wp2
    go_ret
    exact ⟨rfl, hbr⟩

theorem walk (a0 : Int) (a1 : Option Addr) (len1 cap1 : Nat) (z1 : List Int) (w : World) (w0 : (Lit.int .i64 a0).wf = true) (w1 : IsRow .i64 w a1 len1 cap1 z1) :
    Calls Try.prog 4 #[.int .i64 a0, .slice a1 len1 cap1] w fun e w' => e = .returned (.bool true) ∧ Below w.heap.size w w' := by
  obtain ⟨v, rfl⟩ := sword_of w0
  by_cases h0 : len1 = 0
  · subst h0; exact walk_none v a1 cap1 w
  · rcases w1 with ⟨_, rfl, _, _⟩ | ⟨x, rfl, hl, hm, hz, hcell, _⟩
    · exact absurd rfl h0
    · obtain ⟨b, off, spot⟩ := x
      have hspot : spot = none := by simpa [Addr.add] using World.cell?_spot (hcell 0 (by omega))
      subst hspot
      have hc : ∀ i, i < len1 → w.cell? ⟨b, off + i, none⟩ = some (.int .i64 (z1.getD i 0)) := fun i hi => by have := hcell i (by omega); rwa [addr_add] at this
      exact walk_some v b off len1 cap1 (fun i => z1.getD i 0) w (by omega) hc (fun _ => cell_lt (hc 0 (by omega)))

/-! ### The row's step and the statement -/
set_option maxRecDepth 100000 in
theorem lifted (os : Os) (started : os.Started) (H : Type) (enc : TypeId × Value → H) :
    ReturnsInHanded {} Try.checked os 4 .any (Rows.wordFitsSpec.pre6 enc Try.prog Try.f4 Rows.wordFitsRow.domain false) (Rows.wordFitsSpec.post enc Try.prog Try.f4 false true false false) := by
  refine returnsInHanded_of_change (C := Try.checked) own started (by kernel_rfl) Try.func4
    (ChangeSpec.witness6 (enc := enc) (C := Try.checked) false ⟨#[], #[.int .i64 0, .slice none 0 0], []⟩ 8 (by kernel_rfl) (by kernel_rfl) (by kernel_rfl) (by kernel_rfl)) ?_
  intro W base args ds gs before hval0 hW hcnd hsz
  have hval : ∀ (j : Nat) t v, Try.f4.params[j]? = some t → args[j]? = some v → Value.okWide Try.prog W .any base t v := hval0
  have hW' := hW
  obtain ⟨p, q, hA0, hV, rfl, hfz, hnd⟩ := hW
  have hA : DataW.TrodAll enc Try.prog W 0 (fun _ => true) true Try.f4.params.toList args.toList ds p := hA0
  rw [Try.params4] at hA hval
  obtain ⟨v0, vs0, d0, ds0, p0, q0, hargs, rfl, rfl, h0, r0⟩ := trodAll_cons hA
  obtain ⟨v1, vs1, d1, ds1, p1, q1, rfl, rfl, rfl, h1, r1⟩ := trodAll_cons r0
  obtain ⟨rfl, rfl, rfl⟩ := trodAll_nil r1
  obtain rfl : args = #[v0, v1] := by cases args; simp_all
  obtain ⟨rfl, rfl⟩ := trodVars_none hV
  obtain ⟨a0, rfl, rfl, rfl, w0⟩ := open_int Try.underlying2 (hval 0 2 v0 rfl rfl) h0
  obtain ⟨a1, len1, cap1, rfl⟩ := okWide_slice Try.underlying32 (hval 1 32 v1 rfl rfl)
  have k1 := h1
  have lt1 : ∀ x ∈ p1, x.block < W.heap.size := by obtain ⟨m, hm⟩ := k1; exact DataW.trod_lt m _ _ _ hm
  obtain ⟨z1, w1⟩ : ∃ zs, IsRow .i64 W a1 len1 cap1 zs := by
    obtain ⟨fuel, hf⟩ := h1
    rcases open_ints Try.underlying32 Try.underlying3 (by kernel_rfl) hf with ⟨hcs, _⟩ | ⟨x, l, c, zs, hcs, _, hl, hm, hz, _, hcell, hwz⟩
    · simp [Value.cells] at hcs
      obtain ⟨rfl, rfl, rfl⟩ := hcs
      exact ⟨[], .inl ⟨rfl, rfl, rfl, rfl⟩⟩
    · simp [Value.cells] at hcs
      obtain ⟨rfl, rfl, rfl⟩ := hcs
      exact ⟨zs, .inr ⟨_, rfl, hl, hm, by simpa using hz, hcell, hwz⟩⟩
  clear hA0 hval0
  refine (walk a0 a1 len1 cap1 z1 W w0 w1).mono fun e W' ⟨he, bel⟩ => ?_
  subst he
  exact ⟨_, rfl, _, _, _, [], _, [], hW', trodAll_mk1 (shut_bool Try.underlying4 _), (trodAll_cons_mk (shut_int Try.underlying2 w0) (trodAll_cons_mk (Below.trod laidOut (by kernel_rfl) (of_decide_eq_true (by kernel_rfl)) k1 bel lt1) trodAll_mk0)), rfl, bel.frame _, fun h => by cases h⟩

theorem over : Rows.wordFitsRow.holds Try.pinned (OpenSpec.ofChange Rows.wordFitsSpec) :=
  OpenClaim.holds_of_wide 4 Try.f4 rfl rfl rfl rfl rfl rfl rfl ⟨rfl, rfl, rfl, rfl, rfl⟩ rfl rfl rfl rfl rfl (by kernel_rfl) Try.func4 (by kernel_rfl)
    (of_decide_eq_true (by kernel_rfl)) (by unfold Func.isWrapper; first | (rw [if_pos (by decide +kernel)]; kernel_rfl) | (rw [if_neg (by decide +kernel)]; exact ⟨rfl, rfl⟩))
    (fun os started H enc _ => lifted os started H enc)

/-- The statement. -/
theorem proved : Rows.WordFitsSaid := over
end Go.Proofs.Ytchddecnglcemaa.wordFits
