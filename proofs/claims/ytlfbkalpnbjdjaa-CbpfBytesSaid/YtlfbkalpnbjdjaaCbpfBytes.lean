/-
  'CbpfBytes': for every program, the law of layer 3 on Bytes and Read returns true, and leaves memory as it was. No condition.
-/
import Derived.Test.YtlfbkalpnbjdjaaCbpfHead
import Derived.Test.YtlfbkalpnbjdjaaPBack
import Derived.Test.YtlfbkalpnbjdjaaPArgs
import Derived.Test.YtlfbkalpnbjdjaaRowsSized
namespace Go.Proofs.Ytlfbkalpnbjdjaa.cbpfBytes
open Go Go.ChangeShapes Go.WideShapes Go.ChangeAt Go.RowKit
set_option linter.unusedSimpArgs false
set_option linter.unusedVariables false

theorem prog_far {w : World} {a : Option Addr} {n B : Nat} {q : Nat → Ins} (h : ProgAt w a n q) (hB : w.heap.size ≤ B) : ∀ ad, 0 < n → a = some ad → ad.block ≠ B := fun ad hn e => by
  obtain ⟨qb, qo, e', hl, _⟩ := h hn
  rw [e] at e'; injection e' with e'; subst e'; show qb ≠ B; omega
theorem prog_eq {w : World} {a : Option Addr} {n : Nat} {q q' : Nat → Ins} (h : ProgAt w a n q) (e : ∀ i, q i = q' i) : ProgAt w a n q' := by
  rw [← funext e]; exact h
/-- What stands while the law goes on: the argument, the lent program with its mark. -/
abbrev St (w W : World) (a0 : Option Addr) (n : Nat) (q : Nat → Ins) (g : Nat) : Prop :=
  ProgAt W a0 n q ∧ ProgAt W (some ⟨g, 0, none⟩) n q ∧ W.cell? ⟨g, n * 4, none⟩ = some (.int .u16 30583) ∧ Below w.heap.size w W ∧ g < W.heap.size
theorem st_below {w W W' : World} {a0 : Option Addr} {n : Nat} {q : Nat → Ins} {g : Nat} (h : St w W a0 n q g) (hb : Below W.heap.size W W') : St w W' a0 n q g :=
  ⟨h.1.below hb, h.2.1.below hb, (hb.cell (p := ⟨g, n * 4, none⟩) h.2.2.2.2).trans h.2.2.1, h.2.2.2.1.trans (hb.mono h.2.2.2.1.size), Nat.lt_of_lt_of_le h.2.2.2.2 hb.size⟩
set_option maxHeartbeats 8000000 in
theorem walk (a0 : Option Addr) (len0 cap0 : Nat) (w : World) (w0 : RowsOf [.u16, .u8, .u8, .u32] w a0 len0) (s0 : len0 * 8 ≤ 140737488351232) :
    Calls Try.prog 3 #[.slice a0 len0 cap0] w fun e w' => e = .returned (.bool true) ∧ Below w.heap.size w w' := by
  obtain ⟨q1, hp1, hok1⟩ := prog_of_rows w0
  obtain ⟨q, hp, hok⟩ := prog_all hp1 hok1
  clear w0 hp1 hok1
  have HP := Lib.hid hp
  have HO := Lib.hid (fun i (_ : i < len0) => hok i)
  have HZ := Lib.hid (progB_bd hok)
  have HK := Lib.hid hok
  have hn0 : len0 ≤ 140737488351232 := by omega
  clear hp hok
  go_enter Try.func3, Try.ntmps3
  go_wp2_with (first
    | (go_at_call 10; (with_reducible refine (head_is _).mono ?_); rintro e w1 ⟨rfl, hb⟩; have HB1 := Lib.hid hb; have HP1 := Lib.hid (HP.out.below hb); clear hb)
    | (go_at_call 11; (with_reducible refine (lent_is _ _ _ _ q s0 HP1.out).mono ?_); rintro e w2 ⟨gx, capx, rfl, hlent⟩; obtain ⟨F, hr, hc, hm, hF, h77, hb, hge⟩ := hlent; have HT2 := Lib.hid (show St w w2 a0 len0 q gx from ⟨HP1.out.below hb, prog_of_row hr hF (by omega), (World.rowIs.cell hr (i := len0 * 4) (by omega)).trans (congrArg some h77), HB1.out.trans (hb.mono HB1.out.size), hr.lt⟩); clear hr hF h77 hb HP1 HB1 hge)
    | (go_at_call 12; (with_reducible refine (cbpf_Bytes _ _ _ _ q s0 HO.out HT2.out.2.1).mono ?_); rintro e w3 ⟨g, rfl, hr, hb, hge⟩; have HT3 := Lib.hid (st_below HT2.out hb); have HR3 := Lib.hid hr; have hgx : gx < g := Nat.lt_of_lt_of_le HT2.out.2.2.2.2 hge; have hgw : w.heap.size ≤ g := Nat.le_trans HT2.out.2.2.2.1.size hge; clear hr hb hge HT2))
  refine wp_region_held_drew (S := fun w' => Holds w' (some ⟨g, 0, none⟩) (len0 * 8) (fun i => .int .u8 (progB q i))) (by kernel_rfl) (holds_of_row HR3.out (Nat.le_refl _)) (fun hHeld => ?_)
  have HT4 : Hid (St w w3.drew a0 len0 q gx) := Lib.hid (st_below HT3.out (below_drawn (Below.refl _ _) 1))
  have HR4 : Hid (w3.drew.rowIs g 5 (len0 * 8) (fun j => .int .u8 (progB q j))) := HR3
  clear HT3 HR3
  generalize w3.drew = w4 at HT4 HR4 hHeld ⊢
  refine wpAnyH_take (i := 0) (v := ?_) rfl (by kernel_rfl) (by kernel_rfl) (by kernel_rfl) (fun _ _ _ h => h) (Or.inl ⟨by rfl, ?_⟩) (by assumption) ?_
  rotate_left
  · intro wS hSw
    (have q2 := run_string_of (P := Try.prog) wS 25 9 5 Try.underlying25 Try.underlying5 Try.underlying9 (some ⟨g, 0, none⟩) (len0 * 8) (len0 * 8) (progB q) hSw; clear hSw)
    go_simp
    all_goals with_reducible rfl
  (try simp only [List.getElem_toArray, List.getElem_cons_zero, List.getElem_cons_succ, Act.put, List.setIfInBounds_toArray, List.set_cons_zero, List.set_cons_succ])
  refine wpAnyH_take (i := 1) (v := ?_) rfl (by kernel_rfl) (by kernel_rfl) (by kernel_rfl) (fun _ _ _ h => h) (Or.inl ⟨by rfl, ?_⟩) (by assumption) ?_
  rotate_left
  · intro wS hSw
    (have q2 := run_string_of (P := Try.prog) wS 25 9 5 Try.underlying25 Try.underlying5 Try.underlying9 (some ⟨g, 0, none⟩) (len0 * 8) (len0 * 8) (progB q) hSw; clear hSw)
    go_simp
    all_goals with_reducible rfl
  (try simp only [List.getElem_toArray, List.getElem_cons_zero, List.getElem_cons_succ, Act.put, List.setIfInBounds_toArray, List.set_cons_zero, List.set_cons_succ])
  refine wpAnyH_take (i := 2) (v := ?_) rfl (by kernel_rfl) (by kernel_rfl) (by kernel_rfl) (fun _ _ _ h => h) (Or.inl ⟨by rfl, ?_⟩) (by assumption) ?_
  rotate_left
  · intro wS hSw
    (have q2 := run_string_of (P := Try.prog) wS 25 9 5 Try.underlying25 Try.underlying5 Try.underlying9 (some ⟨g, 0, none⟩) (len0 * 8) (len0 * 8) (progB q) hSw; clear hSw)
    go_simp
    all_goals with_reducible rfl
  (try simp only [List.getElem_toArray, List.getElem_cons_zero, List.getElem_cons_succ, Act.put, List.setIfInBounds_toArray, List.set_cons_zero, List.set_cons_succ])
  refine held_one (i := 3) (by kernel_rfl) rfl (fun K hK => ?_)
  go_simp
  go_at_call 13
  refine (ref3_Bytes _ _ _ _ q s0 HO.out HT4.out.1).mono ?_
  rintro e w5 ⟨v5, rfl, hown, hb5⟩
  obtain ⟨A5, cap5, rfl, hA5⟩ := own_holds hown (fun j hj => progL_get q len0 j hj)
  have HT5 := Lib.hid (st_below HT4.out hb5)
  have HR5 := Lib.hid (rowIs_below HR4.out hb5 (World.rowIs.lt HR4.out))
  refine hK.out _ _ (hHeld.below hb5) (fun hH2 => ?_)
  clear hK K hHeld HT4 HR4 hown hb5
  refine held_mono (S' := fun w' => Holds w' (some ⟨g, 0, none⟩) (len0 * 8) (fun i => .int .u8 (progB q i)) ∧ Holds w' A5 (len0 * 8) (fun i => .int .u8 (progB q i))) (fun _ h => h.1) _ _ _ _ ?_
  have hHeld : (fun w' => Holds w' (some ⟨g, 0, none⟩) (len0 * 8) (fun i => .int .u8 (progB q i)) ∧ Holds w' A5 (len0 * 8) (fun i => .int .u8 (progB q i))) w5 := ⟨hH2, hA5⟩
  clear hH2 hA5
  (try simp only [Act.put, List.setIfInBounds_toArray, List.set_cons_zero, List.set_cons_succ])
  refine wpAnyH_take (i := 4) (v := ?_) rfl (by kernel_rfl) (by kernel_rfl) (by kernel_rfl) (fun _ _ _ h => h) (Or.inl ⟨by rfl, ?_⟩) (by assumption) ?_
  rotate_left
  · intro wS hSw
    (have q2 := run_string_of (P := Try.prog) wS 25 9 5 Try.underlying25 Try.underlying5 Try.underlying9 A5 (len0 * 8) cap5 (progB q) hSw.2; clear hSw)
    go_simp
    all_goals with_reducible rfl
  (try simp only [List.getElem_toArray, List.getElem_cons_zero, List.getElem_cons_succ, Act.put, List.setIfInBounds_toArray, List.set_cons_zero, List.set_cons_succ])
  refine wpAnyH_take (i := 5) (v := ?_) rfl (by kernel_rfl) (by kernel_rfl) (by kernel_rfl) (fun _ _ _ h => h) (Or.inl ⟨by rfl, ?_⟩) (by assumption) ?_
  rotate_left
  · intro wS hSw
    (have q2 := run_string_of (P := Try.prog) wS 25 9 5 Try.underlying25 Try.underlying5 Try.underlying9 A5 (len0 * 8) cap5 (progB q) hSw.2; clear hSw)
    go_simp
    all_goals with_reducible rfl
  (try simp only [List.getElem_toArray, List.getElem_cons_zero, List.getElem_cons_succ, Act.put, List.setIfInBounds_toArray, List.set_cons_zero, List.set_cons_succ])
  refine wpAnyH_take (i := 6) (v := ?_) rfl (by kernel_rfl) (by kernel_rfl) (by kernel_rfl) (fun _ _ _ h => h) (Or.inl ⟨by rfl, ?_⟩) (by assumption) ?_
  rotate_left
  · intro wS hSw
    (have q2 := run_string_of (P := Try.prog) wS 25 9 5 Try.underlying25 Try.underlying5 Try.underlying9 A5 (len0 * 8) cap5 (progB q) hSw.2; clear hSw)
    go_simp
    all_goals with_reducible rfl
  (try simp only [List.getElem_toArray, List.getElem_cons_zero, List.getElem_cons_succ, Act.put, List.setIfInBounds_toArray, List.set_cons_zero, List.set_cons_succ])
  refine wpAnyH_done (by kernel_rfl) ?_ _
  have HH5 := Lib.hid (holds_of_row HR5.out (Nat.le_refl _))
  clear hHeld
  go_wp2_with (go_at_call 14; (with_reducible refine (cbpf_Read _ _ len0 _ (progB q) s0 HZ.out HH5.out).mono ?_); rintro e w6 ⟨gy, rfl, hy, hb6, hgey⟩; have HT6 := Lib.hid (st_below HT5.out hb6); have HR6 := Lib.hid (rowIs_below HR5.out hb6 (World.rowIs.lt HR5.out)); have HY6 := Lib.hid (prog_eq hy (fun i => read_write (HK.out i))); have hgy : g < gy := Nat.lt_of_lt_of_le (World.rowIs.lt HR5.out) hgey; clear hy hb6 HT5 HR5 HH5)
  go_loopw [9] (fun i wr => ∃ k : Nat, k ≤ len0 * 8 ∧ i = .int .i64 (k : Int) ∧ w6.grownBy wr (some g) ∧ ∃ G, wr.rowIs g 5 (len0 * 8) G ∧ ∀ j, k ≤ j → G j = .int .u8 (progB q j)) (fun i _ => len0 * 8 - (intOf i).toNat)
  case atStart => exact ⟨0, by omega, rfl, World.grownBy.refl w6 _, _, HR6.out, fun _ _ => rfl⟩
  case round =>
    obtain ⟨k, hk, rfl, hg, G, hr, hG⟩ := hrel
    have HG := Lib.hid hg
    have HR := Lib.hid hr
    have HGG := Lib.hid hG
    by_cases hlt : k < len0 * 8
    · have c0 := (hr.cell (i := k) hlt).trans (congrArg some (hG k (Nat.le_refl _)))
      have z0 := hr.frozen k
      have hlt' : (k : Int) < ((len0 * 8 : Nat) : Int) := by omega
      have hlt2 : (k : Int) < (len0 : Int) * 8 := by omega
      have hw1 : IntKind.i64.wrap ((k : Int) + 1) = (k : Int) + 1 := IntWalk.i64_in _ (by omega)
      clear hg hr hG
      go_wp2
      go_roundw
      case rel => exact ⟨k + 1, by omega, by go_num, grown_set HG.out k _, _, HR.out.set k _, fun j hj => (if_neg (by omega)).trans (HGG.out j (by omega))⟩
      case measure => simp [intOf]; omega
    · obtain rfl : k = len0 * 8 := by omega
      clear hr hG HR HGG hg
      have hx1 : ProgAt wr a0 len0 q := HT6.out.1.grown HG.out (prog_far HP.out hgw)
      have hx2 : ProgAt wr (some ⟨gx, 0, none⟩) len0 q := HT6.out.2.1.grown HG.out (fun ad _ e => by injection e with e; subst e; show gx ≠ g; omega)
      have hx3 : ProgAt wr (some ⟨gy, 0, none⟩) len0 q := HY6.out.grown HG.out (fun ad _ e => by injection e with e; subst e; show gy ≠ g; omega)
      have hx4 : wr.cell? ⟨gx, len0 * 4, none⟩ = some (.int .u16 30583) := HG.out.cell HT6.out.2.2.1 (fun e => by injection e with e; change gx = g at e; omega)
      have hx5 : Below w.heap.size w wr := below_grown HT6.out.2.2.2.1 HG.out hgw (Nat.le_refl _)
      have HX := Lib.hid (And.intro hx1 (And.intro hx2 (And.intro hx3 (And.intro hx4 hx5))))
      clear hx1 hx2 hx3 hx4 hx5 HG HT6 HY6 HR6
      go_wp2_with (first
        | (go_at_call 15; (with_reducible refine (kept_is _ _ _ _ _ _ q s0 hc HX.out.2.1 HX.out.2.2.2.1 HX.out.1).mono ?_); rintro e w7 ⟨rfl, m, rfl⟩; have HX7 := Lib.hid (show ProgAt (wr.drewN m) (some ⟨gy, 0, none⟩) len0 q ∧ ProgAt (wr.drewN m) a0 len0 q from ⟨HX.out.2.2.1, HX.out.1⟩))
        | (go_at_call 16; (with_reducible refine (ref_Same _ _ _ _ _ _ q hn0 HX7.out.1 HX7.out.2).mono ?_); rintro e w8 ⟨rfl, m2, rfl⟩))
      go_ret
      exact ⟨rfl, below_drawn HX.out.2.2.2.2 (m + m2)⟩

/-! ### The row's step and the statement -/
set_option maxRecDepth 100000 in
theorem lifted (os : Os) (started : os.Started) (H : Type) (enc : TypeId × Value → H) :
    ReturnsInHanded {} Try.checked os 3 .any (Rows.cbpfBytesSpec.pre6 enc Try.prog Try.f3 Rows.cbpfBytesRow.domain false) (Rows.cbpfBytesSpec.post enc Try.prog Try.f3 false true false false) := by
  refine returnsInHanded_of_change_sized (C := Try.checked) own started (by kernel_rfl) Try.func3
    (ChangeSpec.witness6 (enc := enc) (C := Try.checked) false ⟨#[], #[.slice none 0 0], []⟩ 8 (by kernel_rfl) (by kernel_rfl) (by kernel_rfl) (by kernel_rfl)) ?_
  intro W base args ds gs before hval0 hW hcnd hsz0 _
  have hsz : (DataW.weightsEach Try.prog (Try.f3.params.toList ++ Rows.cbpfBytesSpec.plain.varTypes Try.prog) (ds ++ gs)).all (· ≤ reachBytes) = true := hsz0
  clear hsz0
  have hval : ∀ (j : Nat) t v, Try.f3.params[j]? = some t → args[j]? = some v → Value.okWide Try.prog W .any base t v := hval0
  have hW' := hW
  obtain ⟨p, q, hA0, hV, rfl, hfz, hnd⟩ := hW
  have hA : DataW.TrodAll enc Try.prog W 0 (fun _ => true) true Try.f3.params.toList args.toList ds p := hA0
  rw [Try.params3] at hA hval hsz
  obtain ⟨v0, vs0, d0, ds0, p0, q0, hargs, rfl, rfl, h0, r0⟩ := trodAll_cons hA
  obtain ⟨rfl, rfl, rfl⟩ := trodAll_nil r0
  obtain rfl : args = #[v0] := by cases args; simp_all
  obtain ⟨rfl, rfl⟩ := trodVars_none hV
  obtain ⟨a0, len0, cap0, rfl⟩ := okWide_slice Try.underlying22 (hval 0 22 v0 rfl rfl)
  have k0 := h0
  have lt0 : ∀ x ∈ p0, x.block < W.heap.size := by obtain ⟨m, hm⟩ := k0; exact DataW.trod_lt m _ _ _ hm
  have w0 : RowsOf [.u16, .u8, .u8, .u32] W a0 len0 := by
    obtain ⟨fuel, hf⟩ := h0
    rcases rows_fields Try.underlying22 Try.underlying43 (by kernel_rfl) (by kernel_rfl) hf with hcs | ⟨x, l, c, hcs, hl, hm, hi⟩
    · simp [Value.cells] at hcs
      obtain ⟨rfl, rfl, rfl⟩ := hcs
      exact .inl ⟨rfl, rfl⟩
    · simp [Value.cells] at hcs
      obtain ⟨rfl, rfl, rfl⟩ := hcs
      refine .inr ⟨_, rfl, Nat.le_trans hl hm, fun i hil j K hK => ?_⟩
      match j, hK with
      | 0, hK =>
        obtain ⟨v, y, n, hc, ht⟩ := hi i hil 0 _ rfl
        obtain ⟨z, e, _, wz⟩ := DataW.trod_int Try.underlying41 ht
        simp only [List.cons.injEq, and_true] at e; subst e
        obtain rfl := Option.some.inj hK
        exact ⟨z, hc, wz⟩
      | 1, hK =>
        obtain ⟨v, y, n, hc, ht⟩ := hi i hil 1 _ rfl
        obtain ⟨z, e, _, wz⟩ := DataW.trod_int Try.underlying5 ht
        simp only [List.cons.injEq, and_true] at e; subst e
        obtain rfl := Option.some.inj hK
        exact ⟨z, hc, wz⟩
      | 2, hK =>
        obtain ⟨v, y, n, hc, ht⟩ := hi i hil 2 _ rfl
        obtain ⟨z, e, _, wz⟩ := DataW.trod_int Try.underlying5 ht
        simp only [List.cons.injEq, and_true] at e; subst e
        obtain rfl := Option.some.inj hK
        exact ⟨z, hc, wz⟩
      | 3, hK =>
        obtain ⟨v, y, n, hc, ht⟩ := hi i hil 3 _ rfl
        obtain ⟨z, e, _, wz⟩ := DataW.trod_int Try.underlying33 ht
        simp only [List.cons.injEq, and_true] at e; subst e
        obtain rfl := Option.some.inj hK
        exact ⟨z, hc, wz⟩
      | _ + 4, hK => exact absurd hK (by simp)
  have s0 : len0 * 8 ≤ 140737488351232 := by
    obtain ⟨fuel, hf⟩ := h0
    rcases rows_sized Try.underlying22 hf with hcs | ⟨x, l, c, elems, rest, hcs, hd, hle⟩
    · simp [Value.cells] at hcs
      obtain ⟨rfl, rfl, rfl⟩ := hcs
      omega
    · simp [Value.cells] at hcs
      obtain ⟨rfl, rfl, rfl⟩ := hcs
      have hr := sized_slice hsz (j := 0) (t := 22) (e := 43) rfl (congrArg some hd) Try.underlying22
      rw [show Try.prog.bytesOf 43 = 8 by kernel_rfl] at hr
      simp only [reachBytes] at hr
      have := Nat.mul_le_mul_right 8 hle
      omega
  clear hA0 hval0
  refine (walk a0 len0 cap0 W w0 s0).mono fun e W' ⟨he, bel⟩ => ?_
  subst he
  exact ⟨_, rfl, _, _, _, [], _, [], hW', trodAll_mk1 (shut_bool Try.underlying4 _), (trodAll_cons_mk (Below.trod laidOut (by kernel_rfl) (of_decide_eq_true (by kernel_rfl)) k0 bel lt0) trodAll_mk0), rfl, bel.frame _, fun h => by cases h⟩

theorem over : Rows.cbpfBytesRow.holds Try.pinned (OpenSpec.ofChange Rows.cbpfBytesSpec) :=
  OpenClaim.holds_of_wide 3 Try.f3 rfl rfl rfl rfl rfl rfl rfl ⟨rfl, rfl, rfl, rfl, rfl⟩ rfl rfl rfl rfl rfl (by kernel_rfl) Try.func3 (by kernel_rfl)
    (of_decide_eq_true (by kernel_rfl)) (by unfold Func.isWrapper; first | (rw [if_pos (by decide +kernel)]; kernel_rfl) | (rw [if_neg (by decide +kernel)]; exact ⟨rfl, rfl⟩))
    (fun os started H enc _ => lifted os started H enc)

/-- The statement. -/
theorem proved : Rows.CbpfBytesSaid := over
end Go.Proofs.Ytlfbkalpnbjdjaa.cbpfBytes
