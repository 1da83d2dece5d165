/-
  'CheckLong': for every number and instruction, the law of layer 4 on programs of so many instructions returns true, and leaves memory as it was. No condition.
-/
import Derived.Test.YtnhfipedhbeajaaCheckHead
import Derived.Test.YtnhfipedhbeajaaMakeRows
import Derived.Laws.EntriesVeiled
namespace Go.Proofs.Ytnhfipedhbeajaa.checkLong
open Go Go.ChangeShapes Go.WideShapes Go.ChangeAt Go.RowKit
set_option linter.unusedSimpArgs false
set_option linter.unusedVariables false

/-- What stands while the row is filled. -/
abbrev SL (w W : World) (g m i : Nat) (x : Ins) : Prop := ∃ F, W.rowIs g 38 (m * 4) F ∧ (∀ k, k < i * 4 → F k = insF x (k % 4)) ∧ InsCells W w.heap.size 0 x ∧ Below w.heap.size w W ∧ w.heap.size < g
theorem sl_put {w W : World} {g m i : Nat} {x : Ins} (h : SL w W g m i x) : SL w ((((W.setCell ⟨g, i * 4, none⟩ (.int .u16 x.code)).setCell ⟨g, i * 4 + 1, none⟩ (.int .u8 (x.jt : Int))).setCell ⟨g, i * 4 + 2, none⟩ (.int .u8 (x.jf : Int))).setCell ⟨g, i * 4 + 3, none⟩ (.int .u32 (x.k.toNat : Int))) g m (i + 1) x := by
  obtain ⟨F, hr, hF, hI, hb, hg⟩ := h
  have hG := row_grown (World.grownBy.refl W (some g)) i (.int .u16 x.code) (.int .u8 (x.jt : Int)) (.int .u8 (x.jf : Int)) (.int .u32 (x.k.toNat : Int))
  refine ⟨_, row_put hr x.code x.jt x.jf x.k, fun k hk => ?_, hI.grown hG (by omega), below_grown hb hG (by omega) (Nat.le_refl _), hg⟩
  by_cases h : k / 4 = i
  · simp only [if_pos h]
  · simp only [if_neg h]; exact hF k (by omega)
/-- The program that the law makes. -/
def longQ (m : Nat) (x : Ins) (i : Nat) : Ins := if i = m - 1 then ⟨6, 0, 0, 0#32⟩ else x
theorem long_ok {m : Nat} {x : Ins} (hx : x.OK) (i : Nat) : (longQ m x i).OK := by
  unfold longQ; split
  · exact ⟨by decide, by decide, by decide, by decide⟩
  · exact hx
/-- The program is made. -/
abbrev SP (w W : World) (g m : Nat) (x : Ins) : Prop := ProgAt W (some ⟨g, 0, none⟩) m (longQ m x) ∧ Below w.heap.size w W
theorem sp_below {w W W' : World} {g m : Nat} {x : Ins} (h : SP w W g m x) (hb : Below W.heap.size W W') : SP w W' g m x := ⟨h.1.below hb, h.2.trans (hb.mono h.2.size)⟩
theorem long_prog {w W : World} {g m : Nat} {x : Ins} (h : SL w W g m m x) (h0 : 0 < m) : SP w ((((W.setCell ⟨g, (m - 1) * 4, none⟩ (.int .u16 6)).setCell ⟨g, (m - 1) * 4 + 1, none⟩ (.int .u8 0)).setCell ⟨g, (m - 1) * 4 + 2, none⟩ (.int .u8 0)).setCell ⟨g, (m - 1) * 4 + 3, none⟩ (.int .u32 0)) g m x := by
  obtain ⟨F, hr, hF, hI, hb, hg⟩ := h
  have hG := row_grown (World.grownBy.refl W (some g)) (m - 1) (.int .u16 6) (.int .u8 0) (.int .u8 0) (.int .u32 0)
  refine ⟨prog_of_row (row_put (i := m - 1) hr 6 0 0 0#32) (fun k hk => ?_) (Nat.le_refl _), below_grown hb hG (by omega) (Nat.le_refl _)⟩
  unfold progF longQ
  by_cases h : k / 4 = m - 1
  · rw [if_pos h]; simp only [if_pos h]
  · rw [if_neg h]; simp only [if_neg h]; exact hF k (by omega)
set_option maxHeartbeats 2000000 in
theorem walk_at (n m : Nat) (x : Ins) (hx : x.OK) (hm : n % 5000 = m) (hn : n < 65536) (w : World) :
    Calls Try.prog 5 #[.int .u16 (n : Int), .agg #[.int .u16 x.code, .int .u8 (x.jt : Int), .int .u8 (x.jf : Int), .int .u32 (x.k.toNat : Int)]] w fun e w' => e = .returned (.bool true) ∧ Below w.heap.size w w' := by
  have hm5 : m < 5000 := by omega
  have g1 : IntKind.i64.wrap (n : Int) = (n : Int) := IntWalk.i64_in _ (by omega)
  have g3 : (n : Int).tmod 5000 = (m : Int) := by rw [Int.tmod_eq_emod_of_nonneg (by omega)]; omega
  clear hm
  have HX := Lib.hid hx
  clear hx
  go_enter Try.func5, Try.ntmps5
  go_wp2_with (first
    | (go_at_call 9; (with_reducible refine (head4_is _).mono ?_); rintro e w1 ⟨rfl, hb⟩; have HB1 := Lib.hid hb; clear hb)
    | (refine wpList_make_rows _ rfl _ _ _ rfl 38 _ 4 8 Try.underlying22 info_ins .i64 .i64 m rfl rfl (by omega) (by omega) ?_; intro g F w2 hr2 hb2 hge))
  have hL := Lib.hid (show SL w w2 g m 0 x from ⟨F, hr2, fun k hk => absurd hk (by omega), (show InsCells (w.alloc (insO x.code x.jt x.jf x.k)) w.heap.size 0 x from ⟨by simp, by simp, by simp, by simp⟩).below (HB1.out.trans (hb2.mono HB1.out.size)) (by simp), (box_below w _).trans ((HB1.out.trans (hb2.mono HB1.out.size)).mono (by simp)), by have := HB1.out.size; simp at this; omega⟩)
  clear hr2 hb2 hge HB1
  go_loopw [7] (fun v wr => ∃ k : Nat, k ≤ m ∧ v = .int .i64 (k : Int) ∧ SL w wr g m k x) (fun v _ => m - (intOf v).toNat)
  case atStart => exact ⟨0, by omega, rfl, hL.out⟩
  case round =>
    obtain ⟨k, hk, rfl, hS⟩ := hrel
    clear hL
    have HS := Lib.hid hS
    clear hS
    by_cases hlt : k < m
    · have hlt' : (k : Int) < (m : Int) := by omega
      obtain ⟨G, hr, _, hI, _⟩ := HS.out
      obtain ⟨i0, i1, i2, i3⟩ := hI
      have c0 : wr.cell? ⟨g, k * 4, none⟩ = some (G (k * 4)) := World.rowIs.cell hr (i := k * 4) (by omega)
      have c1 : wr.cell? ⟨g, k * 4 + 1, none⟩ = some (G (k * 4 + 1)) := World.rowIs.cell hr (i := k * 4 + 1) (by omega)
      have c2 : wr.cell? ⟨g, k * 4 + 2, none⟩ = some (G (k * 4 + 2)) := World.rowIs.cell hr (i := k * 4 + 2) (by omega)
      have c3 : wr.cell? ⟨g, k * 4 + 3, none⟩ = some (G (k * 4 + 3)) := World.rowIs.cell hr (i := k * 4 + 3) (by omega)
      have z0 := World.rowIs.frozen hr (k * 4)
      have z1 := World.rowIs.frozen hr (k * 4 + 1)
      have z2 := World.rowIs.frozen hr (k * 4 + 2)
      have z3 := World.rowIs.frozen hr (k * 4 + 3)
      have hw : IntKind.i64.wrap ((k : Int) + 1) = ((k + 1 : Nat) : Int) := by rw [IntWalk.i64_in _ (by omega)]; omega
      clear hr
      go_wp2
      exact ⟨⟨k + 1, by omega, by go_num, sl_put HS.out⟩, by simp [intOf]; omega⟩
    · obtain rfl : k = m := by omega
      have HO : Hid (∀ i, i < k → (longQ k x i).OK) := Lib.hid fun i _ => long_ok HX.out i
      by_cases h0 : k = 0
      · subst h0
        have HP := Lib.hid (show SP w wr g 0 x from ⟨fun h => absurd h (by omega), by obtain ⟨_, _, _, _, hb, _⟩ := HS.out; exact hb⟩)
        clear HS
        have hmark : True := trivial
        go_wp2_with (first
          | (go_at_call 11; (with_reducible refine (check_Check _ _ _ _ (longQ 0 x) HP.out.1 HO.out).mono ?_); rintro e w3 ⟨rfl, hb⟩; have HP3 := Lib.hid (sp_below HP.out hb); clear hb HP)
          | (go_at_call 12; (with_reducible refine (ref_Check _ _ _ _ (longQ 0 x) HP3.out.1 HO.out).mono ?_); rintro e w4 ⟨rfl, hb⟩; have HP4 := Lib.hid (sp_below HP3.out hb); clear hb HP3))
        go_ret
        exact ⟨rfl, HP4.out.2⟩
      · obtain ⟨G, hr, _, _, _⟩ := HS.out
        have c0 : wr.cell? ⟨g, (k - 1) * 4, none⟩ = some (G ((k - 1) * 4)) := World.rowIs.cell hr (i := (k - 1) * 4) (by omega)
        have c1 : wr.cell? ⟨g, (k - 1) * 4 + 1, none⟩ = some (G ((k - 1) * 4 + 1)) := World.rowIs.cell hr (i := (k - 1) * 4 + 1) (by omega)
        have c2 : wr.cell? ⟨g, (k - 1) * 4 + 2, none⟩ = some (G ((k - 1) * 4 + 2)) := World.rowIs.cell hr (i := (k - 1) * 4 + 2) (by omega)
        have c3 : wr.cell? ⟨g, (k - 1) * 4 + 3, none⟩ = some (G ((k - 1) * 4 + 3)) := World.rowIs.cell hr (i := (k - 1) * 4 + 3) (by omega)
        have z0 := World.rowIs.frozen hr ((k - 1) * 4)
        have z1 := World.rowIs.frozen hr ((k - 1) * 4 + 1)
        have z2 := World.rowIs.frozen hr ((k - 1) * 4 + 2)
        have z3 := World.rowIs.frozen hr ((k - 1) * 4 + 3)
        have HP := Lib.hid (long_prog HS.out (by omega))
        clear hr HS
        have hmark : True := trivial
        go_wp2_with (first
          | (go_at_call 11; (with_reducible refine (check_Check _ _ _ _ (longQ k x) HP.out.1 HO.out).mono ?_); rintro e w3 ⟨rfl, hb⟩; have HP3 := Lib.hid (sp_below HP.out hb); clear hb HP)
          | (go_at_call 12; (with_reducible refine (ref_Check _ _ _ _ (longQ k x) HP3.out.1 HO.out).mono ?_); rintro e w4 ⟨rfl, hb⟩; have HP4 := Lib.hid (sp_below HP3.out hb); clear hb HP3))
        go_ret
        exact ⟨rfl, HP4.out.2⟩
theorem walk (a0 : Int) (e0 e1 e2 e3 : Int) (w : World) (w0 : (Lit.int .u16 a0).wf = true) (f0 : (Lit.int .u16 e0).wf = true) (f1 : (Lit.int .u8 e1).wf = true) (f2 : (Lit.int .u8 e2).wf = true) (f3 : (Lit.int .u32 e3).wf = true) :
    Calls Try.prog 5 #[.int .u16 a0, .agg #[.int .u16 e0, .int .u8 e1, .int .u8 e2, .int .u32 e3]] w fun e w' => e = .returned (.bool true) ∧ Below w.heap.size w w' := by
  have b0 : 0 ≤ a0 ∧ a0 ≤ 65535 := by simpa [Lit.wf, IntKind.min, IntKind.max, IntKind.bits, IntKind.signed] using w0
  have c0 : 0 ≤ e0 ∧ e0 ≤ 65535 := by simpa [Lit.wf, IntKind.min, IntKind.max, IntKind.bits, IntKind.signed] using f0
  have c1 : 0 ≤ e1 ∧ e1 ≤ 255 := by simpa [Lit.wf, IntKind.min, IntKind.max, IntKind.bits, IntKind.signed] using f1
  have c2 : 0 ≤ e2 ∧ e2 ≤ 255 := by simpa [Lit.wf, IntKind.min, IntKind.max, IntKind.bits, IntKind.signed] using f2
  have c3 : 0 ≤ e3 ∧ e3 ≤ 4294967295 := by simpa [Lit.wf, IntKind.min, IntKind.max, IntKind.bits, IntKind.signed] using f3
  have := walk_at a0.toNat (a0.toNat % 5000) ⟨e0, e1.toNat, e2.toNat, BitVec.ofNat 32 e3.toNat⟩ ⟨c0.1, by show e0 < 65536; omega, by show e1.toNat < 256; omega, by show e2.toNat < 256; omega⟩ rfl (by omega) w
  simp only [Int.toNat_of_nonneg b0.1, Int.toNat_of_nonneg c1.1, Int.toNat_of_nonneg c2.1, BitVec.toNat_ofNat, Nat.mod_eq_of_lt (show e3.toNat < 2 ^ 32 by omega), Int.toNat_of_nonneg c3.1] at this
  exact this

/-! ### The row's step and the statement -/
set_option maxRecDepth 100000 in
theorem lifted (os : Os) (started : os.Started) (H : Type) (enc : TypeId × Value → H) :
    ReturnsInHanded {} Try.checked os 5 .any (Rows.checkLongSpec.pre6 enc Try.prog Try.f5 Rows.checkLongRow.domain false) (Rows.checkLongSpec.post enc Try.prog Try.f5 false true false false) := by
  refine returnsInHanded_of_change (C := Try.checked) own started (by kernel_rfl) Try.func5
    (ChangeSpec.witness6 (enc := enc) (C := Try.checked) false ⟨#[], #[.int .u16 0, .agg #[.int .u16 0, .int .u8 0, .int .u8 0, .int .u32 0]], []⟩ 8 (by kernel_rfl) (by kernel_rfl) (by kernel_rfl) (by kernel_rfl)) ?_
  intro W base args ds gs before hval0 hW hcnd _
  have hval : ∀ (j : Nat) t v, Try.f5.params[j]? = some t → args[j]? = some v → Value.okWide Try.prog W .any base t v := hval0
  have hW' := hW
  obtain ⟨p, q, hA0, hV, rfl, hfz, hnd⟩ := hW
  have hA : DataW.TrodAll enc Try.prog W 0 (fun _ => true) true Try.f5.params.toList args.toList ds p := hA0
  rw [Try.params5] at hA hval
  obtain ⟨v0, vs0, d0, ds0, p0, q0, hargs, rfl, rfl, h0, r0⟩ := trodAll_cons hA
  obtain ⟨v1, vs1, d1, ds1, p1, q1, rfl, rfl, rfl, h1, r1⟩ := trodAll_cons r0
  obtain ⟨rfl, rfl, rfl⟩ := trodAll_nil r1
  obtain rfl : args = #[v0, v1] := by cases args; simp_all
  obtain ⟨rfl, rfl⟩ := trodVars_none hV
  obtain ⟨a0, rfl, rfl, rfl, w0⟩ := open_int Try.underlying34 (hval 0 34 v0 rfl rfl) h0
  have k1 := h1
  have lt1 : ∀ x ∈ p1, x.block < W.heap.size := by obtain ⟨m, hm⟩ := k1; exact DataW.trod_lt m _ _ _ hm
  obtain ⟨c1_0, c1_1, c1_2, c1_3, y1_0, y1_1, y1_2, y1_3, m1, rfl, hd1, hp1, hy1_0, hy1_1, hy1_2, hy1_3⟩ := Joins.open_agg4 Try.underlying38 (by kernel_rfl) (by kernel_rfl : Try.prog.cellsOf 38 = 4) (hval 1 38 v1 rfl rfl) h1
  obtain ⟨e1_0, f1_0, _, w1_0⟩ := DataW.trod_int Try.underlying34 hy1_0
  simp only [List.cons.injEq, and_true] at f1_0; subst f1_0
  obtain ⟨e1_1, f1_1, _, w1_1⟩ := DataW.trod_int Try.underlying5 hy1_1
  simp only [List.cons.injEq, and_true] at f1_1; subst f1_1
  obtain ⟨e1_2, f1_2, _, w1_2⟩ := DataW.trod_int Try.underlying5 hy1_2
  simp only [List.cons.injEq, and_true] at f1_2; subst f1_2
  obtain ⟨e1_3, f1_3, _, w1_3⟩ := DataW.trod_int Try.underlying36 hy1_3
  simp only [List.cons.injEq, and_true] at f1_3; subst f1_3
  clear hA0 hval0
  refine (walk a0 e1_0 e1_1 e1_2 e1_3 W w0 w1_0 w1_1 w1_2 w1_3).mono fun e W' ⟨he, bel⟩ => ?_
  subst he
  exact ⟨_, rfl, _, _, _, [], _, [], hW', trodAll_mk1 (shut_bool Try.underlying4 _), (trodAll_cons_mk (shut_int Try.underlying34 w0) (trodAll_cons_mk (Below.trod laidOut (by kernel_rfl) (of_decide_eq_true (by kernel_rfl)) k1 bel lt1) trodAll_mk0)), rfl, bel.frame _, fun h => by cases h⟩

theorem over : Rows.checkLongRow.holds Try.pinned (OpenSpec.ofChange Rows.checkLongSpec) :=
  OpenClaim.holds_of_wide 5 Try.f5 rfl rfl rfl rfl rfl rfl rfl ⟨rfl, rfl, rfl, rfl, rfl⟩ rfl rfl rfl rfl rfl (by kernel_rfl) Try.func5 (by kernel_rfl)
    (of_decide_eq_true (by kernel_rfl)) (by unfold Func.isWrapper; first | (rw [if_pos (by decide +kernel)]; kernel_rfl) | (rw [if_neg (by decide +kernel)]; exact ⟨rfl, rfl⟩))
    (fun os started H enc _ => lifted os started H enc)

/-- The statement. -/
theorem proved : Rows.CheckLongSaid := over
end Go.Proofs.Ytnhfipedhbeajaa.checkLong
