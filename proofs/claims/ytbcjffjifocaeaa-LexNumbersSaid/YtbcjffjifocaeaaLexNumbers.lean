/-
  'LexNumbers': for every list of texts, the law of layer 5 on numbers and words returns true, and leaves memory as it was. No condition.
-/
import Derived.Test.YtbcjffjifocaeaaLexProg
import Derived.Test.YtbcjffjifocaeaaStrRows
namespace Go.Proofs.Ytbcjffjifocaeaa.lexNumbers
open Go Go.ChangeShapes Go.WideShapes Go.ChangeAt Go.RowKit
set_option linter.unusedSimpArgs false
set_option linter.unusedVariables false

abbrev St (w W : World) (a : Option Addr) (len : Nat) (f : Nat → ByteArray) : Prop := StrRow W a len f ∧ Below w.heap.size w W
theorem st_below {w W W' : World} {a : Option Addr} {len : Nat} {f : Nat → ByteArray} (h : St w W a len f) (hb : Below W.heap.size W W') : St w W' a len f := by
  refine ⟨?_, h.2.trans (hb.mono h.2.size)⟩
  rcases h.1 with h0 | ⟨b, o, e, hl, hm, hc⟩
  · exact .inl h0
  · exact .inr ⟨b, o, e, Nat.lt_of_lt_of_le hl hb.size, hm, fun i hi => ⟨(hb.cell (p := ⟨b, o + i, none⟩) hl).trans (hc i hi).1, (hc i hi).2⟩⟩
set_option maxHeartbeats 1000000 in
theorem walk (a0 : Option Addr) (len0 cap0 : Nat) (f0 : Nat → ByteArray) (w : World) (w0 : StrRow w a0 len0 f0) :
    Calls Try.prog 5 #[.slice a0 len0 cap0] w fun e w' => e = .returned (.bool true) ∧ Below w.heap.size w w' := by
  have HS := Lib.hid (show St w w a0 len0 f0 from ⟨w0, Below.refl _ _⟩)
  clear w0
  go_enter Try.func5, Try.ntmps5
  go_wp2_with (go_at_call 8; (with_reducible refine (lives_is _).mono ?_); rintro e w1 ⟨rfl, hb⟩; have HS1 := Lib.hid (st_below HS.out hb); clear hb HS)
  go_loopw [4] (fun v wr => ∃ k : Nat, k ≤ len0 ∧ v = .int .i64 (k : Int) ∧ St w wr a0 len0 f0) (fun v _ => len0 - (intOf v).toNat)
  case atStart => exact ⟨0, by omega, rfl, HS1.out⟩
  case round =>
    obtain ⟨k, hk, rfl, hF⟩ := hrel
    clear HS1
    have HF := Lib.hid hF
    clear hF
    by_cases hlt : k < len0
    · have hlt' : (k : Int) < (len0 : Int) := by omega
      rcases HF.out.1 with h0 | ⟨b, o, rfl, hl, hm, hc⟩
      · omega
      obtain ⟨c0, hsz⟩ := hc k hlt
      unfold maxLen at hm
      have HN := Lib.hid (fun w => (lex_Number (f0 k) hsz w : Calls Try.prog 14 #[.string (f0 k)] w fun e w' => e = .returned (.tuple #[.int .u64 (numV (byt (f0 k)) (f0 k).size : Int), .bool (numB (byt (f0 k)) (f0 k).size)]) ∧ w = w'))
      have HR := Lib.hid (fun w => ref_Number (f0 k) hsz w)
      have HW := Lib.hid (fun w => lex_Word (f0 k) hsz w)
      have HV := Lib.hid (fun w => ref_Word (f0 k) hsz w)
      have hw : IntKind.i64.wrap ((k : Int) + 1) = ((k + 1 : Nat) : Int) := by rw [IntWalk.i64_in _ (by omega)]; omega
      clear hc hsz
      unfold NumP at HN HR
      generalize numV (byt (f0 k)) (f0 k).size = V at HN HR
      generalize numB (byt (f0 k)) (f0 k).size = B at HN HR
      generalize worOK (byt (f0 k)) (f0 k).size = Wd at HW HV
      generalize f0 k = s at c0 HN HR HW HV
      go_wp2_with (first
        | (go_at_call 14; (with_reducible refine (HN.out _).mono ?_); rintro e w' ⟨rfl, rfl⟩)
        | (go_at_call 15; (with_reducible refine (HR.out _).mono ?_); rintro e w' ⟨rfl, rfl⟩)
        | (go_at_call 16; (with_reducible refine (HW.out _).mono ?_); rintro e w' ⟨rfl, rfl⟩)
        | (go_at_call 17; (with_reducible refine (HV.out _).mono ?_); rintro e w' ⟨rfl, rfl⟩))
      exact ⟨⟨k + 1, by omega, by go_num, HF.out⟩, by simp [intOf]; omega⟩
    · go_wp2
      go_ret
      exact ⟨rfl, HF.out.2⟩

/-! ### The row's step and the statement -/
set_option maxRecDepth 100000 in
theorem lifted (os : Os) (started : os.Started) (H : Type) (enc : TypeId × Value → H) :
    ReturnsInHanded {} Try.checked os 5 .any (Rows.lexNumbersSpec.pre6 enc Try.prog Try.f5 Rows.lexNumbersRow.domain false) (Rows.lexNumbersSpec.post enc Try.prog Try.f5 false true false false) := by
  refine returnsInHanded_of_change (C := Try.checked) own started (by kernel_rfl) Try.func5
    (ChangeSpec.witness6 (enc := enc) (C := Try.checked) false ⟨#[], #[.slice none 0 0], []⟩ 8 (by kernel_rfl) (by kernel_rfl) (by kernel_rfl) (by kernel_rfl)) ?_
  intro W base args ds gs before hval0 hW hcnd _
  have hval : ∀ (j : Nat) t v, Try.f5.params[j]? = some t → args[j]? = some v → Value.okWide Try.prog W .any base t v := hval0
  have hW' := hW
  obtain ⟨p, q, hA0, hV, rfl, hfz, hnd⟩ := hW
  have hA : DataW.TrodAll enc Try.prog W 0 (fun _ => true) true Try.f5.params.toList args.toList ds p := hA0
  rw [Try.params5] at hA hval
  obtain ⟨v0, vs0, d0, ds0, p0, q0, hargs, rfl, rfl, h0, r0⟩ := trodAll_cons hA
  obtain ⟨rfl, rfl, rfl⟩ := trodAll_nil r0
  obtain rfl : args = #[v0] := by cases args; simp_all
  obtain ⟨rfl, rfl⟩ := trodVars_none hV
  obtain ⟨a0, len0, cap0, rfl⟩ := okWide_slice Try.underlying37 (hval 0 37 v0 rfl rfl)
  have k0 := h0
  have lt0 : ∀ x ∈ p0, x.block < W.heap.size := by obtain ⟨m, hm⟩ := k0; exact DataW.trod_lt m _ _ _ hm
  obtain ⟨f0, w0⟩ : ∃ f, StrRow W a0 len0 f := by
    obtain ⟨fuel, hf⟩ := h0
    rcases open_strings Try.underlying37 Try.underlying9 (by kernel_rfl) hf with ⟨hcs, _⟩ | ⟨x, l, c, ss, hcs, _, hl, hm, hlen, _, hcell, hw⟩
    · simp [Value.cells] at hcs
      obtain ⟨rfl, rfl, rfl⟩ := hcs
      exact ⟨fun _ => ⟨#[]⟩, .inl rfl⟩
    · simp [Value.cells] at hcs
      obtain ⟨rfl, rfl, rfl⟩ := hcs
      exact ⟨_, str_row hl hm (by rw [hlen]; split <;> omega) hcell hw⟩
  clear hA0 hval0
  refine (walk a0 len0 cap0 f0 W w0).mono fun e W' ⟨he, bel⟩ => ?_
  subst he
  exact ⟨_, rfl, _, _, _, [], _, [], hW', trodAll_mk1 (shut_bool Try.underlying4 _), (trodAll_cons_mk (Below.trod laidOut (by kernel_rfl) (of_decide_eq_true (by kernel_rfl)) k0 bel lt0) trodAll_mk0), rfl, bel.frame _, fun h => by cases h⟩

theorem over : Rows.lexNumbersRow.holds Try.pinned (OpenSpec.ofChange Rows.lexNumbersSpec) :=
  OpenClaim.holds_of_wide 5 Try.f5 rfl rfl rfl rfl rfl rfl rfl ⟨rfl, rfl, rfl, rfl, rfl⟩ rfl rfl rfl rfl rfl (by kernel_rfl) Try.func5 (by kernel_rfl)
    (of_decide_eq_true (by kernel_rfl)) (by unfold Func.isWrapper; first | (rw [if_pos (by decide +kernel)]; kernel_rfl) | (rw [if_neg (by decide +kernel)]; exact ⟨rfl, rfl⟩))
    (fun os started H enc _ => lifted os started H enc)

/-- The statement. -/
theorem proved : Rows.LexNumbersSaid := over
end Go.Proofs.Ytbcjffjifocaeaa.lexNumbers
