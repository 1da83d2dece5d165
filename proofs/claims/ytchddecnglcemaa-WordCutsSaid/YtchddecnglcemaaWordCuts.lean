/-
  'WordCuts': for every list of words and places, the law of layer 1 on Zext, Sext, Bits and Put returns true, and leaves memory as it was. No condition.
-/
import Derived.Test.YtchddecnglcemaaWordLoad
import Derived.Test.YtchddecnglcemaaFrame
namespace Go.Proofs.Ytchddecnglcemaa.wordCuts
open Go Go.ChangeShapes Go.WideShapes Go.ChangeAt Go.RowKit Go.Deep
set_option linter.unusedSimpArgs false
set_option linter.unusedVariables false

set_option maxHeartbeats 1000000 in
theorem walk_some (b off len cap : Nat) (w : World) (hm : len ≤ maxLen) (hb : len ≠ 0 → b < w.heap.size)
    (hc : ∀ i, i < len → ∃ (v x : BitVec 64) (lo n : Int), w.cell? ⟨b, off + i * 4, none⟩ = some (.int .u64 (v.toNat : Int)) ∧ w.cell? ⟨b, off + i * 4 + 1, none⟩ = some (.int .u64 (x.toNat : Int)) ∧
      w.cell? ⟨b, off + i * 4 + 2, none⟩ = some (.int .i64 lo) ∧ w.cell? ⟨b, off + i * 4 + 3, none⟩ = some (.int .i64 n)) :
    Calls Try.prog 3 #[.slice (some ⟨b, off, none⟩) len cap] w fun e w' => e = .returned (.bool true) ∧ Below w.heap.size w w' := by
  unfold maxLen at hm
  go_enter Try.func3, Try.ntmps3
  go_wp2_with (go_at_call 10; refine (head_true _).mono ?_; rintro e w' ⟨rfl, hbel⟩)
  go_loopw [4] (fun i wr => ∃ k : Nat, k ≤ len ∧ i = .int .i64 (k : Int) ∧ Below w.heap.size w wr) (fun i _ => len - (intOf i).toNat)
  case atStart => exact ⟨0, by omega, rfl, hbel⟩
  case round =>
    obtain ⟨k, hk, rfl, hbr⟩ := hrel
    by_cases hlt : k < len
    · obtain ⟨v, x, lo, n, c0, c1, c2, c3⟩ := hc k hlt
      have d0 := (hbr.cell (p := ⟨b, off + k * 4, none⟩) (hb (by omega))).trans c0
      have d1 := (hbr.cell (p := ⟨b, off + k * 4 + 1, none⟩) (hb (by omega))).trans c1
      have d2 := (hbr.cell (p := ⟨b, off + k * 4 + 2, none⟩) (hb (by omega))).trans c2
      have d3 := (hbr.cell (p := ⟨b, off + k * 4 + 3, none⟩) (hb (by omega))).trans c3
      clear hc c0 c1 c2 c3
      go_wp2
      go_quiet (first | (go_at_call 11; exact quietL (word_Zext _ _ _)) | (go_at_call 12; exact quietL (ref_Zext _ _ _)) | (go_at_call 13; exact quietL (word_Sext _ _ _)) | (go_at_call 14; exact quietL (ref_Sext _ _ _)))
      go_wp2
      go_quiet (first | (go_at_call 15; exact quietA (word_Bits _ _ _ _)) | (go_at_call 16; exact quietA (ref_Bits _ _ _ _)) | (go_at_call 17; exact quietA (word_Put _ _ _ _ _)) | (go_at_call 18; exact quietA (ref_Put _ _ _ _ _)))
      go_wp2
      go_roundw
      case rel => exact ⟨k + 1, by omega, by go_num, below_drawn (hbr.alloc hbr.size _) _⟩
      case measure => simp [intOf]; omega
    · go_wp2
      go_ret
      exact ⟨rfl, hbr⟩

set_option maxHeartbeats 400000 in
theorem walk_none (a : Option Addr) (cap : Nat) (w : World) :
    Calls Try.prog 3 #[.slice a 0 cap] w fun e w' => e = .returned (.bool true) ∧ Below w.heap.size w w' := by
  go_enter Try.func3, Try.ntmps3
  go_wp2_with (go_at_call 10; refine (head_true _).mono ?_; rintro e w' ⟨rfl, hbel⟩)
  go_loopw [4] (fun i wr => i = .int .i64 0 ∧ Below w.heap.size w wr) (fun i _ => 0)
  case atStart => exact ⟨rfl, hbel⟩
  case round =>
    obtain ⟨rfl, hbr⟩ := hrel
    go_wp2
    go_ret
    exact ⟨rfl, hbr⟩

theorem walk (a0 : Option Addr) (len0 cap0 : Nat) (w : World) (w0 : RowsOf [.u64, .u64, .i64, .i64] w a0 len0) :
    Calls Try.prog 3 #[.slice a0 len0 cap0] w fun e w' => e = .returned (.bool true) ∧ Below w.heap.size w w' := by
  by_cases h0 : len0 = 0
  · subst h0; exact walk_none a0 cap0 w
  · rcases w0 with ⟨_, h⟩ | ⟨x, rfl, hl, hc⟩
    · exact absurd h h0
    · obtain ⟨b, off, spot⟩ := x
      obtain ⟨_, hc0, _⟩ := hc 0 (by omega) 0 _ rfl
      have hspot : spot = none := by simpa [Addr.add] using World.cell?_spot hc0
      subst hspot
      rw [addr_add] at hc0
      refine walk_some b off len0 cap0 w hl (fun _ => cell_lt hc0) (fun i hi => ?_)
      obtain ⟨z0, c0, f0⟩ := hc i hi 0 _ rfl
      obtain ⟨z1, c1, f1⟩ := hc i hi 1 _ rfl
      obtain ⟨z2, c2, _⟩ := hc i hi 2 _ rfl
      obtain ⟨z3, c3, _⟩ := hc i hi 3 _ rfl
      obtain ⟨v, rfl⟩ := word_of f0
      obtain ⟨y, rfl⟩ := word_of f1
      rw [addr_add] at c0 c1 c2 c3
      exact ⟨v, y, z2, z3, c0, c1, c2, c3⟩

/-! ### The row's step and the statement -/
set_option maxRecDepth 100000 in
theorem lifted (os : Os) (started : os.Started) (H : Type) (enc : TypeId × Value → H) :
    ReturnsInHanded {} Try.checked os 3 .any (Rows.wordCutsSpec.pre6 enc Try.prog Try.f3 Rows.wordCutsRow.domain false) (Rows.wordCutsSpec.post enc Try.prog Try.f3 false true false false) := by
  refine returnsInHanded_of_change (C := Try.checked) own started (by kernel_rfl) Try.func3
    (ChangeSpec.witness6 (enc := enc) (C := Try.checked) false ⟨#[], #[.slice none 0 0], []⟩ 8 (by kernel_rfl) (by kernel_rfl) (by kernel_rfl) (by kernel_rfl)) ?_
  intro W base args ds gs before hval0 hW hcnd hsz
  have hval : ∀ (j : Nat) t v, Try.f3.params[j]? = some t → args[j]? = some v → Value.okWide Try.prog W .any base t v := hval0
  have hW' := hW
  obtain ⟨p, q, hA0, hV, rfl, hfz, hnd⟩ := hW
  have hA : DataW.TrodAll enc Try.prog W 0 (fun _ => true) true Try.f3.params.toList args.toList ds p := hA0
  rw [Try.params3] at hA hval
  obtain ⟨v0, vs0, d0, ds0, p0, q0, hargs, rfl, rfl, h0, r0⟩ := trodAll_cons hA
  obtain ⟨rfl, rfl, rfl⟩ := trodAll_nil r0
  obtain rfl : args = #[v0] := by cases args; simp_all
  obtain ⟨rfl, rfl⟩ := trodVars_none hV
  obtain ⟨a0, len0, cap0, rfl⟩ := okWide_slice Try.underlying22 (hval 0 22 v0 rfl rfl)
  have k0 := h0
  have lt0 : ∀ x ∈ p0, x.block < W.heap.size := by obtain ⟨m, hm⟩ := k0; exact DataW.trod_lt m _ _ _ hm
  have w0 : RowsOf [.u64, .u64, .i64, .i64] W a0 len0 := by
    obtain ⟨fuel, hf⟩ := h0
    rcases rows_fields Try.underlying22 Try.underlying26 (by kernel_rfl) (by kernel_rfl) hf with hcs | ⟨x, l, c, hcs, hl, hm, hi⟩
    · simp [Value.cells] at hcs
      obtain ⟨rfl, rfl, rfl⟩ := hcs
      exact .inl ⟨rfl, rfl⟩
    · simp [Value.cells] at hcs
      obtain ⟨rfl, rfl, rfl⟩ := hcs
      refine .inr ⟨_, rfl, Nat.le_trans hl hm, fun i hil j K hK => ?_⟩
      match j, hK with
      | 0, hK =>
        obtain ⟨v, y, n, hc, ht⟩ := hi i hil 0 _ rfl
        obtain ⟨z, e, _, wz⟩ := DataW.trod_int Try.underlying24 ht
        simp only [List.cons.injEq, and_true] at e; subst e
        obtain rfl := Option.some.inj hK
        exact ⟨z, hc, wz⟩
      | 1, hK =>
        obtain ⟨v, y, n, hc, ht⟩ := hi i hil 1 _ rfl
        obtain ⟨z, e, _, wz⟩ := DataW.trod_int Try.underlying24 ht
        simp only [List.cons.injEq, and_true] at e; subst e
        obtain rfl := Option.some.inj hK
        exact ⟨z, hc, wz⟩
      | 2, hK =>
        obtain ⟨v, y, n, hc, ht⟩ := hi i hil 2 _ rfl
        obtain ⟨z, e, _, wz⟩ := DataW.trod_int Try.underlying3 ht
        simp only [List.cons.injEq, and_true] at e; subst e
        obtain rfl := Option.some.inj hK
        exact ⟨z, hc, wz⟩
      | 3, hK =>
        obtain ⟨v, y, n, hc, ht⟩ := hi i hil 3 _ rfl
        obtain ⟨z, e, _, wz⟩ := DataW.trod_int Try.underlying3 ht
        simp only [List.cons.injEq, and_true] at e; subst e
        obtain rfl := Option.some.inj hK
        exact ⟨z, hc, wz⟩
      | _ + 4, hK => exact absurd hK (by simp)
  clear hA0 hval0
  refine (walk a0 len0 cap0 W w0).mono fun e W' ⟨he, bel⟩ => ?_
  subst he
  exact ⟨_, rfl, _, _, _, [], _, [], hW', trodAll_mk1 (shut_bool Try.underlying4 _), (trodAll_cons_mk (Below.trod laidOut (by kernel_rfl) (of_decide_eq_true (by kernel_rfl)) k0 bel lt0) trodAll_mk0), rfl, bel.frame _, fun h => by cases h⟩

theorem over : Rows.wordCutsRow.holds Try.pinned (OpenSpec.ofChange Rows.wordCutsSpec) :=
  OpenClaim.holds_of_wide 3 Try.f3 rfl rfl rfl rfl rfl rfl rfl ⟨rfl, rfl, rfl, rfl, rfl⟩ rfl rfl rfl rfl rfl (by kernel_rfl) Try.func3 (by kernel_rfl)
    (of_decide_eq_true (by kernel_rfl)) (by unfold Func.isWrapper; first | (rw [if_pos (by decide +kernel)]; kernel_rfl) | (rw [if_neg (by decide +kernel)]; exact ⟨rfl, rfl⟩))
    (fun os started H enc _ => lifted os started H enc)

/-- The statement. -/
theorem proved : Rows.WordCutsSaid := over
end Go.Proofs.Ytchddecnglcemaa.wordCuts
