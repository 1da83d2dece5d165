/-
  'CheckJoined': for every two programs, the law of layer 4 on two accepted programs, one behind the other, returns true, and leaves memory as it was. No condition.
-/
import Derived.Test.YtnhfipedhbeajaaCheckHead
import Derived.Test.YtnhfipedhbeajaaRowsSized
namespace Go.Proofs.Ytnhfipedhbeajaa.checkJoined
open Go Go.ChangeShapes Go.WideShapes Go.ChangeAt Go.RowKit
set_option linter.unusedSimpArgs false
set_option linter.unusedVariables false

/-- What stands while the law goes on. -/
abbrev St (w W : World) (a0 : Option Addr) (n : Nat) (q : Nat → Ins) (a1 : Option Addr) (m : Nat) (r : Nat → Ins) : Prop := ProgAt W a0 n q ∧ ProgAt W a1 m r ∧ Below w.heap.size w W
theorem st_below {w W W' : World} {a0 : Option Addr} {n : Nat} {q : Nat → Ins} {a1 : Option Addr} {m : Nat} {r : Nat → Ins} (h : St w W a0 n q a1 m r) (hb : Below W.heap.size W W') : St w W' a0 n q a1 m r :=
  ⟨h.1.below hb, h.2.1.below hb, h.2.2.trans (hb.mono h.2.2.size)⟩
/-- A look whose error is known. -/
theorem told (w : World) (A : Option Addr) (n cap : Nat) (q : Nat → Ins) (h : ProgAt w A n q) (hok : ∀ i, i < n → (q i).OK) (E : Int) (hE : checkE q n = E) : Calls Try.prog 11 #[.slice A n cap] w fun e w' => (∃ p : Int, e = .returned (.tuple #[.int .i64 E, .int .i64 p])) ∧ Below w.heap.size w w' :=
  (check_Check w A n cap q h hok).mono fun e w' h => ⟨⟨(checkP q n : Int), by rw [h.1, hE]⟩, h.2⟩
/-- Neither is passed over: one is not accepted. -/
theorem walk_no (a0 : Option Addr) (n cap0 : Nat) (a1 : Option Addr) (m cap1 : Nat) (q r : Nat → Ins) (w : World) (h : St w w a0 n q a1 m r) (ho : ∀ i, i < n → (q i).OK) (ho' : ∀ i, i < m → (r i).OK) (E E' : Int) (hE : checkE q n = E) (hE' : checkE r m = E') (hn : (¬ E = 0) ∨ (E = 0 ∧ ¬ E' = 0)) :
    Calls Try.prog 8 #[.slice a0 n cap0, .slice a1 m cap1] w fun e w' => e = .returned (.bool true) ∧ Below w.heap.size w w' := by
  have HS := Lib.hid h
  have HC := Lib.hid (fun w cap h => told w a0 n cap q h ho E hE)
  have HD := Lib.hid (fun w cap h => told w a1 m cap r h ho' E' hE')
  clear h ho ho' hE hE'
  rcases hn with hn | ⟨rfl, hn⟩
  · have h2 : (E != 0) = true := bne_iff_ne.2 hn
    go_enter Try.func8, Try.ntmps8
    go_wp2_with (first
      | (go_at_call 9; (with_reducible refine (head4_is _).mono ?_); rintro e w1 ⟨rfl, hb⟩; have HS1 := Lib.hid (st_below HS.out hb); clear hb HS)
      | (go_at_call 11; (with_reducible refine (HC.out _ _ HS1.out.1).mono ?_); rintro e w2 ⟨⟨p, rfl⟩, hb⟩; have HS2 := Lib.hid (st_below HS1.out hb); clear hb HS1 HC)
      | (go_at_call 11; (with_reducible refine (HD.out _ _ HS2.out.2.1).mono ?_); rintro e w3 ⟨⟨p', rfl⟩, hb⟩; have HS3 := Lib.hid (st_below HS2.out hb); clear hb HS2 HD))
    go_ret
    exact ⟨rfl, HS3.out.2.2⟩
  · have h2 : (E' != 0) = true := bne_iff_ne.2 hn
    go_enter Try.func8, Try.ntmps8
    go_wp2_with (first
      | (go_at_call 9; (with_reducible refine (head4_is _).mono ?_); rintro e w1 ⟨rfl, hb⟩; have HS1 := Lib.hid (st_below HS.out hb); clear hb HS)
      | (go_at_call 11; (with_reducible refine (HC.out _ _ HS1.out.1).mono ?_); rintro e w2 ⟨⟨p, rfl⟩, hb⟩; have HS2 := Lib.hid (st_below HS1.out hb); clear hb HS1 HC)
      | (go_at_call 11; (with_reducible refine (HD.out _ _ HS2.out.2.1).mono ?_); rintro e w3 ⟨⟨p', rfl⟩, hb⟩; have HS3 := Lib.hid (st_below HS2.out hb); clear hb HS2 HD))
    go_ret
    exact ⟨rfl, HS3.out.2.2⟩
/-- The two, laid one behind the other. -/
theorem joined_cells {n m : Nat} {q r : Nat → Ins} {F1 F2 : Nat → Value} (h1 : ∀ k, k < n * 4 → F1 k = progF q k) (h2 : ∀ k, k < n * 4 → F2 k = F1 k) (h3 : ∀ k, k < m * 4 → F2 (n * 4 + k) = progF r k) (k : Nat) (hk : k < (n + m) * 4) : F2 k = progF (joined q n r) k := by
  by_cases h : k < n * 4
  · rw [h2 k h, h1 k h]
    unfold progF joined
    rw [if_pos (by omega)]
  · have := h3 (k - n * 4) (by omega)
    rw [show n * 4 + (k - n * 4) = k by omega] at this
    rw [this]
    unfold progF joined
    rw [if_neg (by omega), show (k - n * 4) / 4 = k / 4 - n by omega, show (k - n * 4) % 4 = k % 4 by omega]
theorem below_row {B : Nat} {a b c : World} {g : Nat} (h : Below B a b) (k : b.grownBy c (some g)) (hg : B ≤ g) (hB : B ≤ a.heap.size) : Below B a c := below_grown h k hg hB
set_option maxHeartbeats 1000000 in
theorem walk_yes (a0 : Option Addr) (n cap0 : Nat) (a1 : Option Addr) (m cap1 : Nat) (q r : Nat → Ins) (w : World) (h : St w w a0 n q a1 m r) (ho : ∀ i, i < n → (q i).OK) (ho' : ∀ i, i < m → (r i).OK) (hE : checkE q n = 0) (hE' : checkE r m = 0) (E : Int) (hJ : checkE (joined q n r) (n + m) = E) (hd : (E = 0 ∧ n + m ≤ 4096) ∨ (¬ E = 0 ∧ ¬ n + m ≤ 4096)) :
    Calls Try.prog 8 #[.slice a0 n cap0, .slice a1 m cap1] w fun e w' => e = .returned (.bool true) ∧ Below w.heap.size w w' := by
  have HS := Lib.hid h
  have HC := Lib.hid (fun w cap h => told w a0 n cap q h ho 0 hE)
  have HD := Lib.hid (fun w cap h => told w a1 m cap r h ho' 0 hE')
  have hn := (check_is.1 hE).max
  have hm := (check_is.1 hE').max
  have HK := Lib.hid (fun w A cap h => told w A (n + m) cap (joined q n r) h (fun i hi => by
    unfold joined; split
    · exact ho i (by omega)
    · exact ho' _ (by omega)) E hJ)
  have hw : IntKind.i64.wrap ((n : Int) + (m : Int)) = ((n + m : Nat) : Int) := by rw [IntWalk.i64_in _ (by omega)]; omega
  clear h ho ho' hE hE' hJ
  go_enter Try.func8, Try.ntmps8
  go_wp2_with (first
    | (go_at_call 9; (with_reducible refine (head4_is _).mono ?_); rintro e w1 ⟨rfl, hb⟩; have HS1 := Lib.hid (st_below HS.out hb); clear hb HS)
    | (go_at_call 11; (with_reducible refine (HC.out _ _ HS1.out.1).mono ?_); rintro e w2 ⟨⟨p, rfl⟩, hb⟩; have HS2 := Lib.hid (st_below HS1.out hb); clear hb HS1 HC)
    | (go_at_call 11; (with_reducible refine (HD.out _ _ HS2.out.2.1).mono ?_); rintro e w3 ⟨⟨p', rfl⟩, hb⟩; have HS3 := Lib.hid (st_below HS2.out hb); have HH := Lib.hid ((holds_of_prog HS3.out.1).below (box_below w3 (.cells #[] 38))); clear hb HS2 HD)
    | (at_builtin; refine wpList_append_rows _ rfl (.tmp 35) (.tmp 36) 22 rfl 38 (.agg #[.int .u16 0, .int .u8 0, .int .u8 0, .int .u32 0]) 4 8 Try.underlying22 info_ins rfl (by decide) w3.heap.size 0 0 (fun _ => undef) rfl (World.rowIs_alloc w3 #[] 38 (fun _ => undef) (fun i hi => absurd hi (by simp))) (Nat.le_refl _) (by decide) _ n cap0 (progF q) rfl HH.out (progF_one q) (by unfold maxLen; omega) (by omega) ?_; intro g1 cap2 F1 w4 hr1 hc1 hm1 _ hF1 hg1 hgg1; simp only [Nat.zero_add, Nat.zero_mul] at hc1 hF1; obtain ⟨hb1, hge1⟩ := append_new_below hg1 hgg1; have HS4 := Lib.hid (st_below HS3.out hb1); have HJ := Lib.hid (holds_of_prog HS4.out.2.1); have hge0 : w.heap.size ≤ w3.heap.size := HS3.out.2.2.size; clear hg1 hgg1 HS3 HH; have HF1 := Lib.hid hF1; clear hF1)
    | (at_builtin; refine wpList_append_rows _ rfl (.tmp 37) (.tmp 38) 22 rfl 38 (.agg #[.int .u16 0, .int .u8 0, .int .u8 0, .int .u32 0]) 4 8 Try.underlying22 info_ins rfl (by decide) g1 n cap2 F1 rfl hr1 hc1 hm1 _ m cap1 (progF r) rfl HJ.out (progF_one r) (by unfold maxLen; omega) (by omega) ?_; intro g2 cap3 F2 w5 hr2 hc2 hm2 hF2 hG2 hg2 hgg2; have HS5 := Lib.hid (show ProgAt w5 (some ⟨g2, 0, none⟩) (n + m) (joined q n r) ∧ Below w.heap.size w w5 from ⟨prog_of_row hr2 (joined_cells HF1.out hF2 hG2) (by omega), below_row HS4.out.2.2 hg2 (by omega) (Nat.le_refl _)⟩); clear HF1 hF2 hG2 hg2 hgg2 hr2 HJ HS4 hr1)
    | (go_at_call 11; (with_reducible refine (HK.out _ _ _ HS5.out.1).mono ?_); rintro e w6 ⟨⟨p'', rfl⟩, hb⟩; have HB6 := Lib.hid (HS5.out.2.trans (hb.mono HS5.out.2.size)); clear hb HS5))
  rcases hd with ⟨rfl, hd⟩ | ⟨hd0, hd⟩
  · have hd' : decide ((n : Int) + (m : Int) ≤ 4096) = true := decide_eq_true (by omega)
    go_wp2
    go_ret
    refine ⟨?_, HB6.out⟩
    show Ending.returned (Value.bool (((0 : Int) == 0) == decide ((n : Int) + (m : Int) ≤ 4096))) = _
    rw [hd']; rfl
  · have hd' : decide ((n : Int) + (m : Int) ≤ 4096) = false := decide_eq_false (by omega)
    have hd1 : (E == 0) = false := beq_false_of_ne hd0
    go_wp2
    go_ret
    refine ⟨?_, HB6.out⟩
    show Ending.returned (Value.bool ((E == 0) == decide ((n : Int) + (m : Int) ≤ 4096))) = _
    rw [hd', hd1]; rfl
theorem walk (a0 : Option Addr) (len0 cap0 : Nat) (a1 : Option Addr) (len1 cap1 : Nat) (w : World) (w0 : RowsOf [.u16, .u8, .u8, .u32] w a0 len0) (s0 : len0 * 8 ≤ 140737488351232) (w1 : RowsOf [.u16, .u8, .u8, .u32] w a1 len1) (s1 : len1 * 8 ≤ 140737488351232) :
    Calls Try.prog 8 #[.slice a0 len0 cap0, .slice a1 len1 cap1] w fun e w' => e = .returned (.bool true) ∧ Below w.heap.size w w' := by
  obtain ⟨q, hp, ho⟩ := prog_of_rows w0
  obtain ⟨r, hp', ho'⟩ := prog_of_rows w1
  have hS : St w w a0 len0 q a1 len1 r := ⟨hp, hp', Below.refl _ _⟩
  by_cases h0 : checkE q len0 = 0
  · by_cases h1 : checkE r len1 = 0
    · have hj := joined_check (check_is.1 h0) (check_is.1 h1)
      refine walk_yes a0 len0 cap0 a1 len1 cap1 q r w hS ho ho' h0 h1 _ rfl ?_
      by_cases h : len0 + len1 ≤ 4096
      · exact .inl ⟨hj.2 h, h⟩
      · exact .inr ⟨fun g => h (hj.1 g), h⟩
    · exact walk_no a0 len0 cap0 a1 len1 cap1 q r w hS ho ho' _ _ rfl rfl (.inr ⟨h0, h1⟩)
  · exact walk_no a0 len0 cap0 a1 len1 cap1 q r w hS ho ho' _ _ rfl rfl (.inl h0)

/-! ### The row's step and the statement -/
set_option maxRecDepth 100000 in
theorem lifted (os : Os) (started : os.Started) (H : Type) (enc : TypeId × Value → H) :
    ReturnsInHanded {} Try.checked os 8 .any (Rows.checkJoinedSpec.pre6 enc Try.prog Try.f8 Rows.checkJoinedRow.domain false) (Rows.checkJoinedSpec.post enc Try.prog Try.f8 false true false false) := by
  refine returnsInHanded_of_change_sized (C := Try.checked) own started (by kernel_rfl) Try.func8
    (ChangeSpec.witness6 (enc := enc) (C := Try.checked) false ⟨#[], #[.slice none 0 0, .slice none 0 0], []⟩ 8 (by kernel_rfl) (by kernel_rfl) (by kernel_rfl) (by kernel_rfl)) ?_
  intro W base args ds gs before hval0 hW hcnd hsz0 _
  have hsz : (DataW.weightsEach Try.prog (Try.f8.params.toList ++ Rows.checkJoinedSpec.plain.varTypes Try.prog) (ds ++ gs)).all (· ≤ reachBytes) = true := hsz0
  clear hsz0
  have hval : ∀ (j : Nat) t v, Try.f8.params[j]? = some t → args[j]? = some v → Value.okWide Try.prog W .any base t v := hval0
  have hW' := hW
  obtain ⟨p, q, hA0, hV, rfl, hfz, hnd⟩ := hW
  have hA : DataW.TrodAll enc Try.prog W 0 (fun _ => true) true Try.f8.params.toList args.toList ds p := hA0
  rw [Try.params8] at hA hval hsz
  obtain ⟨v0, vs0, d0, ds0, p0, q0, hargs, rfl, rfl, h0, r0⟩ := trodAll_cons hA
  obtain ⟨v1, vs1, d1, ds1, p1, q1, rfl, rfl, rfl, h1, r1⟩ := trodAll_cons r0
  obtain ⟨rfl, rfl, rfl⟩ := trodAll_nil r1
  obtain rfl : args = #[v0, v1] := by cases args; simp_all
  obtain ⟨rfl, rfl⟩ := trodVars_none hV
  obtain ⟨a0, len0, cap0, rfl⟩ := okWide_slice Try.underlying22 (hval 0 22 v0 rfl rfl)
  have k0 := h0
  have lt0 : ∀ x ∈ p0, x.block < W.heap.size := by obtain ⟨m, hm⟩ := k0; exact DataW.trod_lt m _ _ _ hm
  have w0 : RowsOf [.u16, .u8, .u8, .u32] W a0 len0 := by
    obtain ⟨fuel, hf⟩ := h0
    rcases rows_fields Try.underlying22 Try.underlying38 (by kernel_rfl) (by kernel_rfl) hf with hcs | ⟨x, l, c, hcs, hl, hm, hi⟩
    · simp [Value.cells] at hcs
      obtain ⟨rfl, rfl, rfl⟩ := hcs
      exact .inl ⟨rfl, rfl⟩
    · simp [Value.cells] at hcs
      obtain ⟨rfl, rfl, rfl⟩ := hcs
      refine .inr ⟨_, rfl, Nat.le_trans hl hm, fun i hil j K hK => ?_⟩
      match j, hK with
      | 0, hK =>
        obtain ⟨v, y, n, hc, ht⟩ := hi i hil 0 _ rfl
        obtain ⟨z, e, _, wz⟩ := DataW.trod_int Try.underlying34 ht
        simp only [List.cons.injEq, and_true] at e; subst e
        obtain rfl := Option.some.inj hK
        exact ⟨z, hc, wz⟩
      | 1, hK =>
        obtain ⟨v, y, n, hc, ht⟩ := hi i hil 1 _ rfl
        obtain ⟨z, e, _, wz⟩ := DataW.trod_int Try.underlying5 ht
        simp only [List.cons.injEq, and_true] at e; subst e
        obtain rfl := Option.some.inj hK
        exact ⟨z, hc, wz⟩
      | 2, hK =>
        obtain ⟨v, y, n, hc, ht⟩ := hi i hil 2 _ rfl
        obtain ⟨z, e, _, wz⟩ := DataW.trod_int Try.underlying5 ht
        simp only [List.cons.injEq, and_true] at e; subst e
        obtain rfl := Option.some.inj hK
        exact ⟨z, hc, wz⟩
      | 3, hK =>
        obtain ⟨v, y, n, hc, ht⟩ := hi i hil 3 _ rfl
        obtain ⟨z, e, _, wz⟩ := DataW.trod_int Try.underlying36 ht
        simp only [List.cons.injEq, and_true] at e; subst e
        obtain rfl := Option.some.inj hK
        exact ⟨z, hc, wz⟩
      | _ + 4, hK => exact absurd hK (by simp)
  have s0 : len0 * 8 ≤ 140737488351232 := by
    obtain ⟨fuel, hf⟩ := h0
    rcases rows_sized Try.underlying22 hf with hcs | ⟨x, l, c, elems, rest, hcs, hd, hle⟩
    · simp [Value.cells] at hcs
      obtain ⟨rfl, rfl, rfl⟩ := hcs
      omega
    · simp [Value.cells] at hcs
      obtain ⟨rfl, rfl, rfl⟩ := hcs
      have hr := sized_slice hsz (j := 0) (t := 22) (e := 38) rfl (congrArg some hd) Try.underlying22
      rw [show Try.prog.bytesOf 38 = 8 by kernel_rfl] at hr
      simp only [reachBytes] at hr
      have := Nat.mul_le_mul_right 8 hle
      omega
  obtain ⟨a1, len1, cap1, rfl⟩ := okWide_slice Try.underlying22 (hval 1 22 v1 rfl rfl)
  have k1 := h1
  have lt1 : ∀ x ∈ p1, x.block < W.heap.size := by obtain ⟨m, hm⟩ := k1; exact DataW.trod_lt m _ _ _ hm
  have w1 : RowsOf [.u16, .u8, .u8, .u32] W a1 len1 := by
    obtain ⟨fuel, hf⟩ := h1
    rcases rows_fields Try.underlying22 Try.underlying38 (by kernel_rfl) (by kernel_rfl) hf with hcs | ⟨x, l, c, hcs, hl, hm, hi⟩
    · simp [Value.cells] at hcs
      obtain ⟨rfl, rfl, rfl⟩ := hcs
      exact .inl ⟨rfl, rfl⟩
    · simp [Value.cells] at hcs
      obtain ⟨rfl, rfl, rfl⟩ := hcs
      refine .inr ⟨_, rfl, Nat.le_trans hl hm, fun i hil j K hK => ?_⟩
      match j, hK with
      | 0, hK =>
        obtain ⟨v, y, n, hc, ht⟩ := hi i hil 0 _ rfl
        obtain ⟨z, e, _, wz⟩ := DataW.trod_int Try.underlying34 ht
        simp only [List.cons.injEq, and_true] at e; subst e
        obtain rfl := Option.some.inj hK
        exact ⟨z, hc, wz⟩
      | 1, hK =>
        obtain ⟨v, y, n, hc, ht⟩ := hi i hil 1 _ rfl
        obtain ⟨z, e, _, wz⟩ := DataW.trod_int Try.underlying5 ht
        simp only [List.cons.injEq, and_true] at e; subst e
        obtain rfl := Option.some.inj hK
        exact ⟨z, hc, wz⟩
      | 2, hK =>
        obtain ⟨v, y, n, hc, ht⟩ := hi i hil 2 _ rfl
        obtain ⟨z, e, _, wz⟩ := DataW.trod_int Try.underlying5 ht
        simp only [List.cons.injEq, and_true] at e; subst e
        obtain rfl := Option.some.inj hK
        exact ⟨z, hc, wz⟩
      | 3, hK =>
        obtain ⟨v, y, n, hc, ht⟩ := hi i hil 3 _ rfl
        obtain ⟨z, e, _, wz⟩ := DataW.trod_int Try.underlying36 ht
        simp only [List.cons.injEq, and_true] at e; subst e
        obtain rfl := Option.some.inj hK
        exact ⟨z, hc, wz⟩
      | _ + 4, hK => exact absurd hK (by simp)
  have s1 : len1 * 8 ≤ 140737488351232 := by
    obtain ⟨fuel, hf⟩ := h1
    rcases rows_sized Try.underlying22 hf with hcs | ⟨x, l, c, elems, rest, hcs, hd, hle⟩
    · simp [Value.cells] at hcs
      obtain ⟨rfl, rfl, rfl⟩ := hcs
      omega
    · simp [Value.cells] at hcs
      obtain ⟨rfl, rfl, rfl⟩ := hcs
      have hr := sized_slice hsz (j := 1) (t := 22) (e := 38) rfl (congrArg some hd) Try.underlying22
      rw [show Try.prog.bytesOf 38 = 8 by kernel_rfl] at hr
      simp only [reachBytes] at hr
      have := Nat.mul_le_mul_right 8 hle
      omega
  clear hA0 hval0
  refine (walk a0 len0 cap0 a1 len1 cap1 W w0 s0 w1 s1).mono fun e W' ⟨he, bel⟩ => ?_
  subst he
  exact ⟨_, rfl, _, _, _, [], _, [], hW', trodAll_mk1 (shut_bool Try.underlying4 _), (trodAll_cons_mk (Below.trod laidOut (by kernel_rfl) (of_decide_eq_true (by kernel_rfl)) k0 bel lt0) (trodAll_cons_mk (Below.trod laidOut (by kernel_rfl) (of_decide_eq_true (by kernel_rfl)) k1 bel lt1) trodAll_mk0)), rfl, bel.frame _, fun h => by cases h⟩

theorem over : Rows.checkJoinedRow.holds Try.pinned (OpenSpec.ofChange Rows.checkJoinedSpec) :=
  OpenClaim.holds_of_wide 8 Try.f8 rfl rfl rfl rfl rfl rfl rfl ⟨rfl, rfl, rfl, rfl, rfl⟩ rfl rfl rfl rfl rfl (by kernel_rfl) Try.func8 (by kernel_rfl)
    (of_decide_eq_true (by kernel_rfl)) (by unfold Func.isWrapper; first | (rw [if_pos (by decide +kernel)]; kernel_rfl) | (rw [if_neg (by decide +kernel)]; exact ⟨rfl, rfl⟩))
    (fun os started H enc _ => lifted os started H enc)

/-- The statement. -/
theorem proved : Rows.CheckJoinedSaid := over
end Go.Proofs.Ytnhfipedhbeajaa.checkJoined
