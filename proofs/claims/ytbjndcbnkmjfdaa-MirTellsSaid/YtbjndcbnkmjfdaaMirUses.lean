/-
  What Uses and Next tell of instructions of programs of registers, on both sides, and whether two lists of numbers are the same: contracts. Conditions: those that each names.
-/
import Derived.Test.YtbjndcbnkmjfdaaMirChkP
import Derived.Test.YtbjndcbnkmjfdaaMirShape
import Derived.Deep.Cut
namespace Go.Proofs.Ytbjndcbnkmjfdaa
open Go Go.RowKit
set_option linter.unusedSimpArgs false
set_option linter.unusedVariables false
set_option maxRecDepth 100000

/-- The same numbers. -/
theorem p_Numbers (A : Option Addr) (c : Nat) (B : Option Addr) (d : Nat) (l : List Int) (hl : l.length ≤ 100000) (w : World) (h : IzAt w A l) (h2 : IzAt w B l) : Calls Try.prog 19 #[.slice A l.length c, .slice B l.length d] w fun e w' => e = .returned (.bool true) ∧ Below w.heap.size w w' := by
  have HI := Lib.hid (And.intro h h2)
  clear h h2
  go_enter Try.func19, Try.ntmps19
  go_wp2
  go_loopw [5] (fun v wr => ∃ k : Nat, k ≤ l.length ∧ v = .int .i64 (k : Int) ∧ Below w.heap.size w wr) (fun v _ => l.length - (intOf v).toNat)
  case atStart => exact ⟨0, by omega, rfl, Below.refl _ _⟩
  case round =>
    obtain ⟨k, hk, rfl, hb⟩ := hrel
    have HB := Lib.hid hb
    by_cases hlt : k < l.length
    · have hlt' : (k : Int) < (l.length : Int) := by omega
      obtain ⟨b1, o1, rfl, l1, hc1⟩ := iz_cell (HI.out.1.below hb) hlt
      obtain ⟨b2, o2, rfl, l2, hc2⟩ := iz_cell (HI.out.2.below hb) hlt
      clear hb
      generalize l.getD k 0 = z at hc1 hc2
      go_wp2
      go_quiet (fail)
      go_wp2
      exact ⟨⟨k + 1, by omega, by go_num, below_drawn HB.out _⟩, by simp [intOf]; omega⟩
    · clear hb
      go_wp2
      go_ret
      exact ⟨rfl, HB.out⟩
def useD (x : Irx) : Int := if dM x.op = true then x.d else -1
def useL (x : Irx) : List Int := askL x (askN x.op)
theorem use_len (x : Irx) : (useL x).length ≤ 2 := by unfold useL; rw [ask_len x (ask_le x.op)]; exact ask_le x.op
/-- What is told of an instruction. -/
def UseP (L : List Int) (D : Int) (w : World) (e : Ending) (w' : World) : Prop := ∃ A c, e = .returned (.tuple #[.slice A L.length c, .int .i64 D]) ∧ IzAt w' A L ∧ Below w.heap.size w w'
abbrev UsesP (x : Irx) (w : World) (e : Ending) (w' : World) : Prop := UseP (useL x) (useD x) w e w'
set_option maxHeartbeats 4000000 in
theorem p_Uses (x : Irx) (w : World) : Calls Try.prog 17 #[irV x] w (UsesP x w) := by
  have hlen := ask_len x (ask_le x.op)
  have HA : Hid (∀ V, Calls Try.prog 35 #[shV (dM x.op) (askN x.op) (aimN x.op), irV x] V fun e w' => ∃ A c, e = .returned (.slice A (useL x).length c) ∧ IzAt w' A (useL x) ∧ Below V.heap.size V w') := Lib.hid fun V => (p_asked x (dM x.op) (askN x.op) (aimN x.op) (ask_le x.op) V).mono fun e w' ⟨v, he, ho, hb⟩ => by
    obtain ⟨A, c, rfl⟩ := own_formM ho
    unfold useL
    rw [hlen]
    exact ⟨A, c, he, own_iz (by rw [hlen]; exact ho), hb⟩
  have HS := Lib.hid (fun V => p_shapeOf x.op V)
  have HD : Hid (useD x = if dM x.op = true then x.d else -1) := Lib.hid rfl
  unfold UsesP
  generalize useL x = L at HA ⊢
  generalize useD x = D at HD ⊢
  clear hlen
  generalize dM x.op = sb at HA HS HD
  generalize askN x.op = sk at HA HS
  generalize aimN x.op = sm at HA HS
  obtain ⟨op, d, a, b, k, t, f⟩ := x
  simp only at HS HD
  have hXX : Hid (∀ w1, Below (w.alloc (irO ⟨op, d, a, b, k, t, f⟩)).heap.size (w.alloc (irO ⟨op, d, a, b, k, t, f⟩)) w1 →
      Below w.heap.size w (w1.alloc (shO sb sk sm)) ∧ (w1.alloc (shO sb sk sm)).heap[w.heap.size]? = some (irO ⟨op, d, a, b, k, t, f⟩) ∧ (w1.alloc (shO sb sk sm)).heap[w1.heap.size]? = some (shO sb sk sm)) := Lib.hid fun w1 hb =>
    ⟨onM (onM (lboxM w _) hb) (lboxM w1 _), keepM (keepM (World.alloc_heap_new w _) hb) (lboxM w1 _), World.alloc_heap_new w1 _⟩
  go_enter Try.func17, Try.ntmps17
  go_upto_region 2 with (go_at_call 34; (with_reducible refine (HS.out _).mono ?_); rintro e w1 ⟨rfl, hb1⟩; have HX := Lib.hid (hXX.out w1 hb1); clear hb1)
  generalize w1.alloc (.cells #[.bool sb, .int .i64 (sk : Int), .int .i64 (sm : Int)] 65) = X at HX ⊢
  generalize w1.heap.size = bs at HX ⊢
  clear hXX HS
  have u0 := cellM HX.out.2.1 0 rfl
  have u1 := cellM HX.out.2.1 1 rfl
  have u2 := cellM HX.out.2.1 2 rfl
  have u3 := cellM HX.out.2.1 3 rfl
  have u4 := cellM HX.out.2.1 4 rfl
  have u5 := cellM HX.out.2.1 5 rfl
  have u6 := cellM HX.out.2.1 6 rfl
  have v0 := cellM HX.out.2.2 0 rfl
  have v1 := cellM HX.out.2.2 1 rfl
  have v2 := cellM HX.out.2.2 2 rfl
  cases sb with
  | false =>
    go_wp2_with (go_at_call 35; (with_reducible refine (HA.out _).mono ?_); rintro e w2 ⟨A, c, rfl, hi, hb⟩; have HZ := Lib.hid (And.intro hi (onM HX.out.1 hb)); clear hi hb)
    go_ret2
    unfold UseP
    exact ⟨A, c, by rw [HD.out]; rfl, HZ.out.1, HZ.out.2⟩
  | true =>
    go_wp2
    clear u0 u1 u2 u3 u4 u5 u6 v0 v1 v2
    refine wp_region_held_drew (S := fun W' => Below X.heap.size X W') (by kernel_rfl) (Below.refl X.heap.size X).drew (fun hHeld => ?_)
    have HY := Lib.hid ((Below.refl X.heap.size X).drew)
    generalize X.drew = Y at HY hHeld ⊢
    refine wpAnyH_take (i := 0) (v := ?_) rfl (by kernel_rfl) (by kernel_rfl) (by kernel_rfl) (fun _ _ _ h => h) (Or.inl ⟨by rfl, ?_⟩) (by assumption) ?_
    rotate_left
    · intro wS hSw
      (have i1 := keepM HX.out.2.1 hSw; have i2 := keepM HX.out.2.2 hSw; have e0 := cellM i1 0 rfl; have e1 := cellM i1 1 rfl; have e2 := cellM i1 2 rfl; have e3 := cellM i1 3 rfl; have e4 := cellM i1 4 rfl; have e5 := cellM i1 5 rfl; have e6 := cellM i1 6 rfl; have s0 := cellM i2 0 rfl; have s1 := cellM i2 1 rfl; have s2 := cellM i2 2 rfl; clear hSw i1 i2)
      go_simp
      all_goals with_reducible rfl
    (try simp only [List.getElem_toArray, List.getElem_cons_zero, List.getElem_cons_succ, Act.put, List.setIfInBounds_toArray, List.set_cons_zero, List.set_cons_succ])
    refine wpAnyH_take (i := 1) (v := ?_) rfl (by kernel_rfl) (by kernel_rfl) (by kernel_rfl) (fun _ _ _ h => h) (Or.inl ⟨by rfl, ?_⟩) (by assumption) ?_
    rotate_left
    · intro wS hSw
      (have i1 := keepM HX.out.2.1 hSw; have i2 := keepM HX.out.2.2 hSw; have e0 := cellM i1 0 rfl; have e1 := cellM i1 1 rfl; have e2 := cellM i1 2 rfl; have e3 := cellM i1 3 rfl; have e4 := cellM i1 4 rfl; have e5 := cellM i1 5 rfl; have e6 := cellM i1 6 rfl; have s0 := cellM i2 0 rfl; have s1 := cellM i2 1 rfl; have s2 := cellM i2 2 rfl; clear hSw i1 i2)
      go_simp
      all_goals with_reducible rfl
    (try simp only [List.getElem_toArray, List.getElem_cons_zero, List.getElem_cons_succ, Act.put, List.setIfInBounds_toArray, List.set_cons_zero, List.set_cons_succ])
    refine wpAnyH_take (i := 3) (v := ?_) rfl (by kernel_rfl) (by kernel_rfl) (by kernel_rfl) (fun _ _ _ h => h) (Or.inl ⟨by rfl, ?_⟩) (by assumption) ?_
    rotate_left
    · intro wS hSw
      (have i1 := keepM HX.out.2.1 hSw; have i2 := keepM HX.out.2.2 hSw; have e0 := cellM i1 0 rfl; have e1 := cellM i1 1 rfl; have e2 := cellM i1 2 rfl; have e3 := cellM i1 3 rfl; have e4 := cellM i1 4 rfl; have e5 := cellM i1 5 rfl; have e6 := cellM i1 6 rfl; have s0 := cellM i2 0 rfl; have s1 := cellM i2 1 rfl; have s2 := cellM i2 2 rfl; clear hSw i1 i2)
      go_simp
      all_goals with_reducible rfl
    (try simp only [List.getElem_toArray, List.getElem_cons_zero, List.getElem_cons_succ, Act.put, List.setIfInBounds_toArray, List.set_cons_zero, List.set_cons_succ])
    refine wpAnyH_take (i := 4) (v := ?_) rfl (by kernel_rfl) (by kernel_rfl) (by kernel_rfl) (fun _ _ _ h => h) (Or.inl ⟨by rfl, ?_⟩) (by assumption) ?_
    rotate_left
    · intro wS hSw
      (have i1 := keepM HX.out.2.1 hSw; have i2 := keepM HX.out.2.2 hSw; have e0 := cellM i1 0 rfl; have e1 := cellM i1 1 rfl; have e2 := cellM i1 2 rfl; have e3 := cellM i1 3 rfl; have e4 := cellM i1 4 rfl; have e5 := cellM i1 5 rfl; have e6 := cellM i1 6 rfl; have s0 := cellM i2 0 rfl; have s1 := cellM i2 1 rfl; have s2 := cellM i2 2 rfl; clear hSw i1 i2)
      go_simp
      all_goals with_reducible rfl
    (try simp only [List.getElem_toArray, List.getElem_cons_zero, List.getElem_cons_succ, Act.put, List.setIfInBounds_toArray, List.set_cons_zero, List.set_cons_succ])
    refine held_one (i := 2) (by kernel_rfl) rfl (fun K hK => ?_)
    go_simp
    go_at_call 35
    refine (HA.out _).mono ?_
    rintro e w4 ⟨A, c, rfl, hi4, hb4⟩
    have hb5 := onM HY.out hb4
    refine hK.out _ _ hb5 (fun hH1 => ?_)
    have HZ := Lib.hid (And.intro hi4 (onM HX.out.1 hb5))
    clear hK K hHeld hi4 hb4 hb5
    (try simp only [Act.put, List.setIfInBounds_toArray, List.set_cons_zero, List.set_cons_succ, List.getElem_toArray, List.getElem_cons_zero, List.getElem_cons_succ])
    refine wpAnyH_take (i := 5) (v := ?_) rfl (by kernel_rfl) (by kernel_rfl) (by kernel_rfl) (fun _ _ _ h => h) (Or.inl ⟨by rfl, ?_⟩) (by assumption) ?_
    rotate_left
    · intro wS hSw
      (skip)
      go_simp
      all_goals with_reducible rfl
    (try simp only [List.getElem_toArray, List.getElem_cons_zero, List.getElem_cons_succ, Act.put, List.setIfInBounds_toArray, List.set_cons_zero, List.set_cons_succ])
    refine wpAnyH_take (i := 6) (v := ?_) rfl (by kernel_rfl) (by kernel_rfl) (by kernel_rfl) (fun _ _ _ h => h) (Or.inl ⟨by rfl, ?_⟩) (by assumption) ?_
    rotate_left
    · intro wS hSw
      (skip)
      go_simp
      all_goals with_reducible rfl
    (try simp only [List.getElem_toArray, List.getElem_cons_zero, List.getElem_cons_succ, Act.put, List.setIfInBounds_toArray, List.set_cons_zero, List.set_cons_succ])
    refine wpAnyH_done (by kernel_rfl) ?_ _
    go_wp2
    go_ret2
    unfold UseP
    exact ⟨A, c, by rw [HD.out]; rfl, HZ.out.1, HZ.out.2⟩
theorem r_app {w : World} {B : Nat} {A : Option Addr} {c n : Nat} {l : List Int} (z : Int) (h : w.ownsRow B 3 1 (.slice A n c) n (izL l)) : (w.alloc (.cells #[.int .i64 z] 3)).ownsRow B 3 1 (.slice A n c) n (izL l) := own_below h (lboxM w _)
theorem izL_snoc (l : List Int) (z : Int) : izL (l ++ [z]) = izL l ++ [.int .i64 z] := by unfold izL; rw [List.map_append]; rfl
theorem own_done {w : World} {B : Nat} {A : Option Addr} {c n : Nat} {l : List Int} (h : w.ownsRow B 3 1 (.slice A n c) n (izL l)) (hn : l.length = n) : IzAt w A l := own_iz (by rw [hn]; exact h)
theorem use_is {x : Irx} {bd ba bb : Bool} (hd : dM x.op = bd) (ha : aM x.op = ba) (hb : bM x.op = bb) (hba : bb = true → ba = true) : useL x = (if ba = true then [x.a] else []) ++ (if bb = true then [x.b] else []) ∧ useD x = if bd = true then x.d else -1 := by
  unfold useL useD askN askL
  rw [hd, ha, hb]
  cases ba <;> cases bb <;> simp <;> (try simp at hba)

set_option maxHeartbeats 8000000 in
theorem r_Uses (x : Irx) (w : World) : Calls Try.prog 18 #[irV x] w (UsesP x w) := by
  have HX := Lib.hid (And.intro (lboxM w (irO x)) (World.alloc_heap_new w (irO x)))
  unfold UsesP
  by_cases hop : 1 ≤ x.op ∧ x.op ≤ 19
  · have HN := Lib.hid (fun W => r_Names x.op W)
    obtain ⟨bd, hd⟩ : ∃ z, dM x.op = z := ⟨_, rfl⟩
    obtain ⟨ba, ha⟩ : ∃ z, aM x.op = z := ⟨_, rfl⟩
    obtain ⟨bb, hb⟩ : ∃ z, bM x.op = z := ⟨_, rfl⟩
    have hba : bb = true → ba = true := by rw [← ha, ← hb]; simp [aM, bM]; omega
    have HU := Lib.hid (use_is hd ha hb hba)
    rw [hd, ha, hb] at HN
    generalize tM x.op = bt at HN
    generalize fM x.op = bf at HN
    generalize useL x = L at HU ⊢
    generalize useD x = D at HU ⊢
    obtain ⟨op, d, a, b, k, t, f⟩ := x
    simp only at HN HU hop
    have q1 : ¬ op < 1 := by omega
    have q2 : ¬ 19 < op := by omega
    clear hd ha hb hop
    have HX0 : Hid ((w.alloc (irO ⟨op, d, a, b, k, t, f⟩)).ownsRow (w.alloc (irO ⟨op, d, a, b, k, t, f⟩)).heap.size 3 1 (.slice none 0 0) 0 (izL []) ∧ Below (w.alloc (irO ⟨op, d, a, b, k, t, f⟩)).heap.size (w.alloc (irO ⟨op, d, a, b, k, t, f⟩)) (w.alloc (irO ⟨op, d, a, b, k, t, f⟩))) := Lib.hid ⟨World.ownsRow_nil _ _ _ _, Below.refl _ _⟩
    cases ba with
    | false =>
      have : bb = false := by cases bb; rfl; exact absurd (hba rfl) (by decide)
      subst this
      cases bd with
      | false =>
        clear hba
        go_enter Try.func18, Try.ntmps18
        go_wp2_with (go_at_call 28; (with_reducible refine (HN.out _).mono ?_); rintro e w1 ⟨rfl, rfl⟩)
        go_ret2
        unfold UseP
        exact ⟨none, 0, by rw [HU.out.1, HU.out.2]; rfl, by rw [HU.out.1]; exact fun h => absurd h (by simp), HX.out.1⟩
      | true =>
        clear hba
        go_enter Try.func18, Try.ntmps18
        go_wp2_with (go_at_call 28; (with_reducible refine (HN.out _).mono ?_); rintro e w1 ⟨rfl, rfl⟩)
        go_quiet (fail)
        go_wp2
        go_ret2
        unfold UseP
        exact ⟨none, 0, by rw [HU.out.1, HU.out.2]; rfl, by rw [HU.out.1]; exact fun h => absurd h (by simp), below_drawn HX.out.1 _⟩
    | true =>
      cases bb with
      | false =>
        cases bd with
        | false =>
          clear hba
          go_enter Try.func18, Try.ntmps18
          go_upto_region 5 with (go_at_call 28; (with_reducible refine (HN.out _).mono ?_); rintro e w1 ⟨rfl, rfl⟩)
          generalize w.alloc (.cells #[.int .i64 op, .int .i64 d, .int .i64 a, .int .i64 b, .int .u32 (k.toNat : Int), .int .i64 t, .int .i64 f] 35) = V0 at HX HX0 ⊢
          have b01 := cellM HX.out.2 1 rfl
          have b02 := cellM HX.out.2 2 rfl
          have b03 := cellM HX.out.2 3 rfl
          go_wp2_with (at_builtin; refine wpList_append_own _ rfl (.tmp 28) (.tmp 31) 41 rfl 3 (.int .i64 0) 1 8 Try.underlying41 info_intM rfl (by decide) V0.heap.size (.slice none 0 0) 0 (izL []) rfl (own_below HX0.out.1 (lboxM V0 (.cells #[.int .i64 a] 3))) ⟨V0.heap.size, 0, none⟩ 1 1 [.int .i64 a] rfl rfl (int_newM V0 (.int .i64 a) 3) (int_oneM _ _) (by unfold maxLen; omega) (by omega) (onM HX0.out.2 (lboxM V0 (.cells #[.int .i64 a] 3))).size ?_; intro v1 W1 ho1 hg1 hv1; obtain ⟨A1, c1, rfl⟩ := own_formM ho1; have hbb := below_own (onM HX0.out.2 (lboxM V0 (.cells #[.int .i64 a] 3))) (own_below HX0.out.1 (lboxM V0 (.cells #[.int .i64 a] 3))) hg1 (Nat.le_refl _); have H1 : Hid (W1.ownsRow V0.heap.size 3 1 (.slice A1 1 c1) 1 (izL ([] ++ [a])) ∧ Below V0.heap.size V0 W1) := Lib.hid ⟨by rw [izL_snoc]; exact ho1, hbb⟩; clear ho1 hg1 hv1 hbb b01 b02 b03; have hx1 := keepM HX.out.2 H1.out.2; have b11 := cellM hx1 1 rfl; have b12 := cellM hx1 2 rfl; have b13 := cellM hx1 3 rfl)
          go_ret2
          unfold UseP
          exact ⟨A1, c1, by rw [HU.out.1, HU.out.2]; rfl, by rw [HU.out.1]; exact own_done H1.out.1 rfl, onM HX.out.1 H1.out.2⟩
        | true =>
          clear hba
          go_enter Try.func18, Try.ntmps18
          go_upto_region 5 with (go_at_call 28; (with_reducible refine (HN.out _).mono ?_); rintro e w1 ⟨rfl, rfl⟩)
          generalize w.alloc (.cells #[.int .i64 op, .int .i64 d, .int .i64 a, .int .i64 b, .int .u32 (k.toNat : Int), .int .i64 t, .int .i64 f] 35) = V0 at HX HX0 ⊢
          have b01 := cellM HX.out.2 1 rfl
          have b02 := cellM HX.out.2 2 rfl
          have b03 := cellM HX.out.2 3 rfl
          go_wp2_with (at_builtin; refine wpList_append_own _ rfl (.tmp 28) (.tmp 31) 41 rfl 3 (.int .i64 0) 1 8 Try.underlying41 info_intM rfl (by decide) V0.heap.size (.slice none 0 0) 0 (izL []) rfl (own_below HX0.out.1 (lboxM V0 (.cells #[.int .i64 a] 3))) ⟨V0.heap.size, 0, none⟩ 1 1 [.int .i64 a] rfl rfl (int_newM V0 (.int .i64 a) 3) (int_oneM _ _) (by unfold maxLen; omega) (by omega) (onM HX0.out.2 (lboxM V0 (.cells #[.int .i64 a] 3))).size ?_; intro v1 W1 ho1 hg1 hv1; obtain ⟨A1, c1, rfl⟩ := own_formM ho1; have hbb := below_own (onM HX0.out.2 (lboxM V0 (.cells #[.int .i64 a] 3))) (own_below HX0.out.1 (lboxM V0 (.cells #[.int .i64 a] 3))) hg1 (Nat.le_refl _); have H1 : Hid (W1.ownsRow V0.heap.size 3 1 (.slice A1 1 c1) 1 (izL ([] ++ [a])) ∧ Below V0.heap.size V0 W1) := Lib.hid ⟨by rw [izL_snoc]; exact ho1, hbb⟩; clear ho1 hg1 hv1 hbb b01 b02 b03; have hx1 := keepM HX.out.2 H1.out.2; have b11 := cellM hx1 1 rfl; have b12 := cellM hx1 2 rfl; have b13 := cellM hx1 3 rfl)
          go_quiet (fail)
          go_wp2
          go_ret2
          unfold UseP
          exact ⟨A1, c1, by rw [HU.out.1, HU.out.2]; rfl, by rw [HU.out.1]; exact own_done H1.out.1 rfl, below_drawn (onM HX.out.1 H1.out.2) _⟩
      | true =>
        cases bd with
        | false =>
          clear hba
          go_enter Try.func18, Try.ntmps18
          go_upto_region 5 with (go_at_call 28; (with_reducible refine (HN.out _).mono ?_); rintro e w1 ⟨rfl, rfl⟩)
          generalize w.alloc (.cells #[.int .i64 op, .int .i64 d, .int .i64 a, .int .i64 b, .int .u32 (k.toNat : Int), .int .i64 t, .int .i64 f] 35) = V0 at HX HX0 ⊢
          have b01 := cellM HX.out.2 1 rfl
          have b02 := cellM HX.out.2 2 rfl
          have b03 := cellM HX.out.2 3 rfl
          go_wp2_with (first
            | (at_builtin; refine wpList_append_own _ rfl (.tmp 34) (.tmp 37) 41 rfl 3 (.int .i64 0) 1 8 Try.underlying41 info_intM rfl (by decide) V0.heap.size (.slice A1 1 c1) 1 (izL ([] ++ [a])) rfl (own_below H1.out.1 (lboxM W1 (.cells #[.int .i64 b] 3))) ⟨W1.heap.size, 0, none⟩ 1 1 [.int .i64 b] rfl rfl (int_newM W1 (.int .i64 b) 3) (int_oneM _ _) (by unfold maxLen; omega) (by omega) (onM H1.out.2 (lboxM W1 (.cells #[.int .i64 b] 3))).size ?_; intro v2 W2 ho2 hg2 hv2; obtain ⟨A2, c2, rfl⟩ := own_formM ho2; have hbb := below_own (onM H1.out.2 (lboxM W1 (.cells #[.int .i64 b] 3))) (own_below H1.out.1 (lboxM W1 (.cells #[.int .i64 b] 3))) hg2 (Nat.le_refl _); have H2 : Hid (W2.ownsRow V0.heap.size 3 1 (.slice A2 2 c2) 2 (izL (([] ++ [a]) ++ [b])) ∧ Below V0.heap.size V0 W2) := Lib.hid ⟨by rw [izL_snoc]; exact ho2, hbb⟩; clear ho2 hg2 hv2 hbb b11 b12 b13; have hx2 := keepM HX.out.2 H2.out.2; have b21 := cellM hx2 1 rfl; have b22 := cellM hx2 2 rfl; have b23 := cellM hx2 3 rfl)
            | (at_builtin; refine wpList_append_own _ rfl (.tmp 28) (.tmp 31) 41 rfl 3 (.int .i64 0) 1 8 Try.underlying41 info_intM rfl (by decide) V0.heap.size (.slice none 0 0) 0 (izL []) rfl (own_below HX0.out.1 (lboxM V0 (.cells #[.int .i64 a] 3))) ⟨V0.heap.size, 0, none⟩ 1 1 [.int .i64 a] rfl rfl (int_newM V0 (.int .i64 a) 3) (int_oneM _ _) (by unfold maxLen; omega) (by omega) (onM HX0.out.2 (lboxM V0 (.cells #[.int .i64 a] 3))).size ?_; intro v1 W1 ho1 hg1 hv1; obtain ⟨A1, c1, rfl⟩ := own_formM ho1; have hbb := below_own (onM HX0.out.2 (lboxM V0 (.cells #[.int .i64 a] 3))) (own_below HX0.out.1 (lboxM V0 (.cells #[.int .i64 a] 3))) hg1 (Nat.le_refl _); have H1 : Hid (W1.ownsRow V0.heap.size 3 1 (.slice A1 1 c1) 1 (izL ([] ++ [a])) ∧ Below V0.heap.size V0 W1) := Lib.hid ⟨by rw [izL_snoc]; exact ho1, hbb⟩; clear ho1 hg1 hv1 hbb b01 b02 b03; have hx1 := keepM HX.out.2 H1.out.2; have b11 := cellM hx1 1 rfl; have b12 := cellM hx1 2 rfl; have b13 := cellM hx1 3 rfl))
          go_ret2
          unfold UseP
          exact ⟨A2, c2, by rw [HU.out.1, HU.out.2]; rfl, by rw [HU.out.1]; exact own_done H2.out.1 rfl, onM HX.out.1 H2.out.2⟩
        | true =>
          clear hba
          go_enter Try.func18, Try.ntmps18
          go_upto_region 5 with (go_at_call 28; (with_reducible refine (HN.out _).mono ?_); rintro e w1 ⟨rfl, rfl⟩)
          generalize w.alloc (.cells #[.int .i64 op, .int .i64 d, .int .i64 a, .int .i64 b, .int .u32 (k.toNat : Int), .int .i64 t, .int .i64 f] 35) = V0 at HX HX0 ⊢
          have b01 := cellM HX.out.2 1 rfl
          have b02 := cellM HX.out.2 2 rfl
          have b03 := cellM HX.out.2 3 rfl
          go_wp2_with (first
            | (at_builtin; refine wpList_append_own _ rfl (.tmp 34) (.tmp 37) 41 rfl 3 (.int .i64 0) 1 8 Try.underlying41 info_intM rfl (by decide) V0.heap.size (.slice A1 1 c1) 1 (izL ([] ++ [a])) rfl (own_below H1.out.1 (lboxM W1 (.cells #[.int .i64 b] 3))) ⟨W1.heap.size, 0, none⟩ 1 1 [.int .i64 b] rfl rfl (int_newM W1 (.int .i64 b) 3) (int_oneM _ _) (by unfold maxLen; omega) (by omega) (onM H1.out.2 (lboxM W1 (.cells #[.int .i64 b] 3))).size ?_; intro v2 W2 ho2 hg2 hv2; obtain ⟨A2, c2, rfl⟩ := own_formM ho2; have hbb := below_own (onM H1.out.2 (lboxM W1 (.cells #[.int .i64 b] 3))) (own_below H1.out.1 (lboxM W1 (.cells #[.int .i64 b] 3))) hg2 (Nat.le_refl _); have H2 : Hid (W2.ownsRow V0.heap.size 3 1 (.slice A2 2 c2) 2 (izL (([] ++ [a]) ++ [b])) ∧ Below V0.heap.size V0 W2) := Lib.hid ⟨by rw [izL_snoc]; exact ho2, hbb⟩; clear ho2 hg2 hv2 hbb b11 b12 b13; have hx2 := keepM HX.out.2 H2.out.2; have b21 := cellM hx2 1 rfl; have b22 := cellM hx2 2 rfl; have b23 := cellM hx2 3 rfl)
            | (at_builtin; refine wpList_append_own _ rfl (.tmp 28) (.tmp 31) 41 rfl 3 (.int .i64 0) 1 8 Try.underlying41 info_intM rfl (by decide) V0.heap.size (.slice none 0 0) 0 (izL []) rfl (own_below HX0.out.1 (lboxM V0 (.cells #[.int .i64 a] 3))) ⟨V0.heap.size, 0, none⟩ 1 1 [.int .i64 a] rfl rfl (int_newM V0 (.int .i64 a) 3) (int_oneM _ _) (by unfold maxLen; omega) (by omega) (onM HX0.out.2 (lboxM V0 (.cells #[.int .i64 a] 3))).size ?_; intro v1 W1 ho1 hg1 hv1; obtain ⟨A1, c1, rfl⟩ := own_formM ho1; have hbb := below_own (onM HX0.out.2 (lboxM V0 (.cells #[.int .i64 a] 3))) (own_below HX0.out.1 (lboxM V0 (.cells #[.int .i64 a] 3))) hg1 (Nat.le_refl _); have H1 : Hid (W1.ownsRow V0.heap.size 3 1 (.slice A1 1 c1) 1 (izL ([] ++ [a])) ∧ Below V0.heap.size V0 W1) := Lib.hid ⟨by rw [izL_snoc]; exact ho1, hbb⟩; clear ho1 hg1 hv1 hbb b01 b02 b03; have hx1 := keepM HX.out.2 H1.out.2; have b11 := cellM hx1 1 rfl; have b12 := cellM hx1 2 rfl; have b13 := cellM hx1 3 rfl))
          go_quiet (fail)
          go_wp2
          go_ret2
          unfold UseP
          exact ⟨A2, c2, by rw [HU.out.1, HU.out.2]; rfl, by rw [HU.out.1]; exact own_done H2.out.1 rfl, below_drawn (onM HX.out.1 H2.out.2) _⟩
  · have HU : Hid (useL x = [] ∧ useD x = -1) := Lib.hid (by
      have g1 : dM x.op = false := by simp [dM]; omega
      have g2 : aM x.op = false := by simp [aM]; omega
      have g3 : bM x.op = false := by simp [bM]; omega
      exact use_is (x := x) g1 g2 g3 (fun h => (by cases h)))
    generalize useL x = L at HU ⊢
    generalize useD x = D at HU ⊢
    obtain ⟨op, d, a, b, k, t, f⟩ := x
    simp only at hop
    by_cases q1 : op < 1
    · clear hop
      go_enter Try.func18, Try.ntmps18
      go_wp2
      go_ret2
      unfold UseP
      exact ⟨none, 0, by rw [HU.out.1, HU.out.2]; rfl, by rw [HU.out.1]; exact fun h => absurd h (by simp), HX.out.1⟩
    · have q2 : 19 < op := by omega
      clear hop
      go_enter Try.func18, Try.ntmps18
      go_wp2
      go_ret2
      unfold UseP
      exact ⟨none, 0, by rw [HU.out.1, HU.out.2]; rfl, by rw [HU.out.1]; exact fun h => absurd h (by simp), HX.out.1⟩
end Go.Proofs.Ytbjndcbnkmjfdaa
