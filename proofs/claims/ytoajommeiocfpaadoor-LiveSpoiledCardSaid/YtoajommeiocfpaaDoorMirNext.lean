/-
  Which registers an instruction asks for, which it sets, where it leads, as the program tells: contracts. Conditions: those that each names.
-/
import Derived.Test.YtoajommeiocfpaaDoorMirChkP
import Derived.Test.YtoajommeiocfpaaDoorMirShape
import Derived.Deep.Cut
namespace Go.Proofs.YtoajommeiocfpaaDoor
open Go Go.RowKit
set_option linter.unusedSimpArgs false
set_option linter.unusedVariables false
set_option maxRecDepth 100000

def useD (x : Irx) : Int := if dM x.op = true then x.d else -1
def useL (x : Irx) : List Int := askL x (askN x.op)
theorem use_len (x : Irx) : (useL x).length ≤ 2 := by unfold useL; rw [ask_len x (ask_le x.op)]; exact ask_le x.op
/-- What is told of an instruction. -/
def UseP (L : List Int) (D : Int) (w : World) (e : Ending) (w' : World) : Prop := ∃ A c, e = .returned (.tuple #[.slice A L.length c, .int .i64 D]) ∧ IzAt w' A L ∧ Below w.heap.size w w'
abbrev UsesP (x : Irx) (w : World) (e : Ending) (w' : World) : Prop := UseP (useL x) (useD x) w e w'
set_option maxHeartbeats 4000000 in
theorem p_Uses (x : Irx) (w : World) : Calls Tryd.prog 50 #[irV x] w (UsesP x w) := by
  have hlen := ask_len x (ask_le x.op)
  have HA : Hid (∀ V, Calls Tryd.prog 62 #[shV (dM x.op) (askN x.op) (aimN x.op), irV x] V fun e w' => ∃ A c, e = .returned (.slice A (useL x).length c) ∧ IzAt w' A (useL x) ∧ Below V.heap.size V w') := Lib.hid fun V => (p_asked x (dM x.op) (askN x.op) (aimN x.op) (ask_le x.op) V).mono fun e w' ⟨v, he, ho, hb⟩ => by
    obtain ⟨A, c, rfl⟩ := own_formM ho
    unfold useL
    rw [hlen]
    exact ⟨A, c, he, own_iz (by rw [hlen]; exact ho), hb⟩
  have HS := Lib.hid (fun V => p_shapeOf x.op V)
  have HD : Hid (useD x = if dM x.op = true then x.d else -1) := Lib.hid rfl
  unfold UsesP
  generalize useL x = L at HA ⊢
  generalize useD x = D at HD ⊢
  clear hlen
  generalize dM x.op = sb at HA HS HD
  generalize askN x.op = sk at HA HS
  generalize aimN x.op = sm at HA HS
  obtain ⟨op, d, a, b, k, t, f⟩ := x
  simp only at HS HD
  have hXX : Hid (∀ w1, Below (w.alloc (irO ⟨op, d, a, b, k, t, f⟩)).heap.size (w.alloc (irO ⟨op, d, a, b, k, t, f⟩)) w1 →
      Below w.heap.size w (w1.alloc (shO sb sk sm)) ∧ (w1.alloc (shO sb sk sm)).heap[w.heap.size]? = some (irO ⟨op, d, a, b, k, t, f⟩) ∧ (w1.alloc (shO sb sk sm)).heap[w1.heap.size]? = some (shO sb sk sm)) := Lib.hid fun w1 hb =>
    ⟨onM (onM (lboxM w _) hb) (lboxM w1 _), keepM (keepM (World.alloc_heap_new w _) hb) (lboxM w1 _), World.alloc_heap_new w1 _⟩
  go_enter Tryd.func50, Tryd.ntmps50
  go_upto_region 2 with (go_at_call 57; (with_reducible refine (HS.out _).mono ?_); rintro e w1 ⟨rfl, hb1⟩; have HX := Lib.hid (hXX.out w1 hb1); clear hb1)
  generalize w1.alloc (.cells #[.bool sb, .int .i64 (sk : Int), .int .i64 (sm : Int)] 104) = X at HX ⊢
  generalize w1.heap.size = bs at HX ⊢
  clear hXX HS
  have u0 := cellM HX.out.2.1 0 rfl
  have u1 := cellM HX.out.2.1 1 rfl
  have u2 := cellM HX.out.2.1 2 rfl
  have u3 := cellM HX.out.2.1 3 rfl
  have u4 := cellM HX.out.2.1 4 rfl
  have u5 := cellM HX.out.2.1 5 rfl
  have u6 := cellM HX.out.2.1 6 rfl
  have v0 := cellM HX.out.2.2 0 rfl
  have v1 := cellM HX.out.2.2 1 rfl
  have v2 := cellM HX.out.2.2 2 rfl
  cases sb with
  | false =>
    go_wp2_with (go_at_call 62; (with_reducible refine (HA.out _).mono ?_); rintro e w2 ⟨A, c, rfl, hi, hb⟩; have HZ := Lib.hid (And.intro hi (onM HX.out.1 hb)); clear hi hb)
    go_ret2
    unfold UseP
    exact ⟨A, c, by rw [HD.out]; rfl, HZ.out.1, HZ.out.2⟩
  | true =>
    go_wp2
    clear u0 u1 u2 u3 u4 u5 u6 v0 v1 v2
    refine wp_region_held_drew (S := fun W' => Below X.heap.size X W') (by kernel_rfl) (Below.refl X.heap.size X).drew (fun hHeld => ?_)
    have HY := Lib.hid ((Below.refl X.heap.size X).drew)
    generalize X.drew = Y at HY hHeld ⊢
    refine wpAnyH_take (i := 0) (v := ?_) rfl (by kernel_rfl) (by kernel_rfl) (by kernel_rfl) (fun _ _ _ h => h) (Or.inl ⟨by rfl, ?_⟩) (by assumption) ?_
    rotate_left
    · intro wS hSw
      (have i1 := keepM HX.out.2.1 hSw; have i2 := keepM HX.out.2.2 hSw; have e0 := cellM i1 0 rfl; have e1 := cellM i1 1 rfl; have e2 := cellM i1 2 rfl; have e3 := cellM i1 3 rfl; have e4 := cellM i1 4 rfl; have e5 := cellM i1 5 rfl; have e6 := cellM i1 6 rfl; have s0 := cellM i2 0 rfl; have s1 := cellM i2 1 rfl; have s2 := cellM i2 2 rfl; clear hSw i1 i2)
      go_simp
      all_goals with_reducible rfl
    (try simp only [List.getElem_toArray, List.getElem_cons_zero, List.getElem_cons_succ, Act.put, List.setIfInBounds_toArray, List.set_cons_zero, List.set_cons_succ])
    refine wpAnyH_take (i := 1) (v := ?_) rfl (by kernel_rfl) (by kernel_rfl) (by kernel_rfl) (fun _ _ _ h => h) (Or.inl ⟨by rfl, ?_⟩) (by assumption) ?_
    rotate_left
    · intro wS hSw
      (have i1 := keepM HX.out.2.1 hSw; have i2 := keepM HX.out.2.2 hSw; have e0 := cellM i1 0 rfl; have e1 := cellM i1 1 rfl; have e2 := cellM i1 2 rfl; have e3 := cellM i1 3 rfl; have e4 := cellM i1 4 rfl; have e5 := cellM i1 5 rfl; have e6 := cellM i1 6 rfl; have s0 := cellM i2 0 rfl; have s1 := cellM i2 1 rfl; have s2 := cellM i2 2 rfl; clear hSw i1 i2)
      go_simp
      all_goals with_reducible rfl
    (try simp only [List.getElem_toArray, List.getElem_cons_zero, List.getElem_cons_succ, Act.put, List.setIfInBounds_toArray, List.set_cons_zero, List.set_cons_succ])
    refine wpAnyH_take (i := 3) (v := ?_) rfl (by kernel_rfl) (by kernel_rfl) (by kernel_rfl) (fun _ _ _ h => h) (Or.inl ⟨by rfl, ?_⟩) (by assumption) ?_
    rotate_left
    · intro wS hSw
      (have i1 := keepM HX.out.2.1 hSw; have i2 := keepM HX.out.2.2 hSw; have e0 := cellM i1 0 rfl; have e1 := cellM i1 1 rfl; have e2 := cellM i1 2 rfl; have e3 := cellM i1 3 rfl; have e4 := cellM i1 4 rfl; have e5 := cellM i1 5 rfl; have e6 := cellM i1 6 rfl; have s0 := cellM i2 0 rfl; have s1 := cellM i2 1 rfl; have s2 := cellM i2 2 rfl; clear hSw i1 i2)
      go_simp
      all_goals with_reducible rfl
    (try simp only [List.getElem_toArray, List.getElem_cons_zero, List.getElem_cons_succ, Act.put, List.setIfInBounds_toArray, List.set_cons_zero, List.set_cons_succ])
    refine wpAnyH_take (i := 4) (v := ?_) rfl (by kernel_rfl) (by kernel_rfl) (by kernel_rfl) (fun _ _ _ h => h) (Or.inl ⟨by rfl, ?_⟩) (by assumption) ?_
    rotate_left
    · intro wS hSw
      (have i1 := keepM HX.out.2.1 hSw; have i2 := keepM HX.out.2.2 hSw; have e0 := cellM i1 0 rfl; have e1 := cellM i1 1 rfl; have e2 := cellM i1 2 rfl; have e3 := cellM i1 3 rfl; have e4 := cellM i1 4 rfl; have e5 := cellM i1 5 rfl; have e6 := cellM i1 6 rfl; have s0 := cellM i2 0 rfl; have s1 := cellM i2 1 rfl; have s2 := cellM i2 2 rfl; clear hSw i1 i2)
      go_simp
      all_goals with_reducible rfl
    (try simp only [List.getElem_toArray, List.getElem_cons_zero, List.getElem_cons_succ, Act.put, List.setIfInBounds_toArray, List.set_cons_zero, List.set_cons_succ])
    refine held_one (i := 2) (by kernel_rfl) rfl (fun K hK => ?_)
    go_simp
    go_at_call 62
    refine (HA.out _).mono ?_
    rintro e w4 ⟨A, c, rfl, hi4, hb4⟩
    have hb5 := onM HY.out hb4
    refine hK.out _ _ hb5 (fun hH1 => ?_)
    have HZ := Lib.hid (And.intro hi4 (onM HX.out.1 hb5))
    clear hK K hHeld hi4 hb4 hb5
    (try simp only [Act.put, List.setIfInBounds_toArray, List.set_cons_zero, List.set_cons_succ, List.getElem_toArray, List.getElem_cons_zero, List.getElem_cons_succ])
    refine wpAnyH_take (i := 5) (v := ?_) rfl (by kernel_rfl) (by kernel_rfl) (by kernel_rfl) (fun _ _ _ h => h) (Or.inl ⟨by rfl, ?_⟩) (by assumption) ?_
    rotate_left
    · intro wS hSw
      (skip)
      go_simp
      all_goals with_reducible rfl
    (try simp only [List.getElem_toArray, List.getElem_cons_zero, List.getElem_cons_succ, Act.put, List.setIfInBounds_toArray, List.set_cons_zero, List.set_cons_succ])
    refine wpAnyH_take (i := 6) (v := ?_) rfl (by kernel_rfl) (by kernel_rfl) (by kernel_rfl) (fun _ _ _ h => h) (Or.inl ⟨by rfl, ?_⟩) (by assumption) ?_
    rotate_left
    · intro wS hSw
      (skip)
      go_simp
      all_goals with_reducible rfl
    (try simp only [List.getElem_toArray, List.getElem_cons_zero, List.getElem_cons_succ, Act.put, List.setIfInBounds_toArray, List.set_cons_zero, List.set_cons_succ])
    refine wpAnyH_done (by kernel_rfl) ?_ _
    go_wp2
    go_ret2
    unfold UseP
    exact ⟨A, c, by rw [HD.out]; rfl, HZ.out.1, HZ.out.2⟩
theorem r_app {w : World} {B : Nat} {A : Option Addr} {c n : Nat} {l : List Int} (z : Int) (h : w.ownsRow B 3 1 (.slice A n c) n (izL l)) : (w.alloc (.cells #[.int .i64 z] 3)).ownsRow B 3 1 (.slice A n c) n (izL l) := own_below h (lboxM w _)
theorem izL_snoc (l : List Int) (z : Int) : izL (l ++ [z]) = izL l ++ [.int .i64 z] := by unfold izL; rw [List.map_append]; rfl
theorem own_done {w : World} {B : Nat} {A : Option Addr} {c n : Nat} {l : List Int} (h : w.ownsRow B 3 1 (.slice A n c) n (izL l)) (hn : l.length = n) : IzAt w A l := own_iz (by rw [hn]; exact h)
theorem use_is {x : Irx} {bd ba bb : Bool} (hd : dM x.op = bd) (ha : aM x.op = ba) (hb : bM x.op = bb) (hba : bb = true → ba = true) : useL x = (if ba = true then [x.a] else []) ++ (if bb = true then [x.b] else []) ∧ useD x = if bd = true then x.d else -1 := by
  unfold useL useD askN askL
  rw [hd, ha, hb]
  cases ba <;> cases bb <;> simp <;> (try simp at hba)

set_option maxHeartbeats 8000000 in
theorem r_Uses (x : Irx) (w : World) : Calls Tryd.prog 19 #[irV x] w (UsesP x w) := by
  have HX := Lib.hid (And.intro (lboxM w (irO x)) (World.alloc_heap_new w (irO x)))
  unfold UsesP
  by_cases hop : 1 ≤ x.op ∧ x.op ≤ 19
  · have HN := Lib.hid (fun W => r_Names x.op W)
    obtain ⟨bd, hd⟩ : ∃ z, dM x.op = z := ⟨_, rfl⟩
    obtain ⟨ba, ha⟩ : ∃ z, aM x.op = z := ⟨_, rfl⟩
    obtain ⟨bb, hb⟩ : ∃ z, bM x.op = z := ⟨_, rfl⟩
    have hba : bb = true → ba = true := by rw [← ha, ← hb]; simp [aM, bM]; omega
    have HU := Lib.hid (use_is hd ha hb hba)
    rw [hd, ha, hb] at HN
    generalize tM x.op = bt at HN
    generalize fM x.op = bf at HN
    generalize useL x = L at HU ⊢
    generalize useD x = D at HU ⊢
    obtain ⟨op, d, a, b, k, t, f⟩ := x
    simp only at HN HU hop
    have q1 : ¬ op < 1 := by omega
    have q2 : ¬ 19 < op := by omega
    clear hd ha hb hop
    have HX0 : Hid ((w.alloc (irO ⟨op, d, a, b, k, t, f⟩)).ownsRow (w.alloc (irO ⟨op, d, a, b, k, t, f⟩)).heap.size 3 1 (.slice none 0 0) 0 (izL []) ∧ Below (w.alloc (irO ⟨op, d, a, b, k, t, f⟩)).heap.size (w.alloc (irO ⟨op, d, a, b, k, t, f⟩)) (w.alloc (irO ⟨op, d, a, b, k, t, f⟩))) := Lib.hid ⟨World.ownsRow_nil _ _ _ _, Below.refl _ _⟩
    cases ba with
    | false =>
      have : bb = false := by cases bb; rfl; exact absurd (hba rfl) (by decide)
      subst this
      cases bd with
      | false =>
        clear hba
        go_enter Tryd.func19, Tryd.ntmps19
        go_wp2_with (go_at_call 30; (with_reducible refine (HN.out _).mono ?_); rintro e w1 ⟨rfl, rfl⟩)
        go_ret2
        unfold UseP
        exact ⟨none, 0, by rw [HU.out.1, HU.out.2]; rfl, by rw [HU.out.1]; exact fun h => absurd h (by simp), HX.out.1⟩
      | true =>
        clear hba
        go_enter Tryd.func19, Tryd.ntmps19
        go_wp2_with (go_at_call 30; (with_reducible refine (HN.out _).mono ?_); rintro e w1 ⟨rfl, rfl⟩)
        go_quiet (fail)
        go_wp2
        go_ret2
        unfold UseP
        exact ⟨none, 0, by rw [HU.out.1, HU.out.2]; rfl, by rw [HU.out.1]; exact fun h => absurd h (by simp), below_drawn HX.out.1 _⟩
    | true =>
      cases bb with
      | false =>
        cases bd with
        | false =>
          clear hba
          go_enter Tryd.func19, Tryd.ntmps19
          go_upto_region 5 with (go_at_call 30; (with_reducible refine (HN.out _).mono ?_); rintro e w1 ⟨rfl, rfl⟩)
          generalize w.alloc (.cells #[.int .i64 op, .int .i64 d, .int .i64 a, .int .i64 b, .int .u32 (k.toNat : Int), .int .i64 t, .int .i64 f] 59) = V0 at HX HX0 ⊢
          have b01 := cellM HX.out.2 1 rfl
          have b02 := cellM HX.out.2 2 rfl
          have b03 := cellM HX.out.2 3 rfl
          go_wp2_with (at_builtin; refine wpList_append_own _ rfl (.tmp 28) (.tmp 31) 54 rfl 3 (.int .i64 0) 1 8 Tryd.underlying54 info_intM rfl (by decide) V0.heap.size (.slice none 0 0) 0 (izL []) rfl (own_below HX0.out.1 (lboxM V0 (.cells #[.int .i64 a] 3))) ⟨V0.heap.size, 0, none⟩ 1 1 [.int .i64 a] rfl rfl (int_newM V0 (.int .i64 a) 3) (int_oneM _ _) (by unfold maxLen; omega) (by omega) (onM HX0.out.2 (lboxM V0 (.cells #[.int .i64 a] 3))).size ?_; intro v1 W1 ho1 hg1 hv1; obtain ⟨A1, c1, rfl⟩ := own_formM ho1; have hbb := below_own (onM HX0.out.2 (lboxM V0 (.cells #[.int .i64 a] 3))) (own_below HX0.out.1 (lboxM V0 (.cells #[.int .i64 a] 3))) hg1 (Nat.le_refl _); have H1 : Hid (W1.ownsRow V0.heap.size 3 1 (.slice A1 1 c1) 1 (izL ([] ++ [a])) ∧ Below V0.heap.size V0 W1) := Lib.hid ⟨by rw [izL_snoc]; exact ho1, hbb⟩; clear ho1 hg1 hv1 hbb b01 b02 b03; have hx1 := keepM HX.out.2 H1.out.2; have b11 := cellM hx1 1 rfl; have b12 := cellM hx1 2 rfl; have b13 := cellM hx1 3 rfl)
          go_ret2
          unfold UseP
          exact ⟨A1, c1, by rw [HU.out.1, HU.out.2]; rfl, by rw [HU.out.1]; exact own_done H1.out.1 rfl, onM HX.out.1 H1.out.2⟩
        | true =>
          clear hba
          go_enter Tryd.func19, Tryd.ntmps19
          go_upto_region 5 with (go_at_call 30; (with_reducible refine (HN.out _).mono ?_); rintro e w1 ⟨rfl, rfl⟩)
          generalize w.alloc (.cells #[.int .i64 op, .int .i64 d, .int .i64 a, .int .i64 b, .int .u32 (k.toNat : Int), .int .i64 t, .int .i64 f] 59) = V0 at HX HX0 ⊢
          have b01 := cellM HX.out.2 1 rfl
          have b02 := cellM HX.out.2 2 rfl
          have b03 := cellM HX.out.2 3 rfl
          go_wp2_with (at_builtin; refine wpList_append_own _ rfl (.tmp 28) (.tmp 31) 54 rfl 3 (.int .i64 0) 1 8 Tryd.underlying54 info_intM rfl (by decide) V0.heap.size (.slice none 0 0) 0 (izL []) rfl (own_below HX0.out.1 (lboxM V0 (.cells #[.int .i64 a] 3))) ⟨V0.heap.size, 0, none⟩ 1 1 [.int .i64 a] rfl rfl (int_newM V0 (.int .i64 a) 3) (int_oneM _ _) (by unfold maxLen; omega) (by omega) (onM HX0.out.2 (lboxM V0 (.cells #[.int .i64 a] 3))).size ?_; intro v1 W1 ho1 hg1 hv1; obtain ⟨A1, c1, rfl⟩ := own_formM ho1; have hbb := below_own (onM HX0.out.2 (lboxM V0 (.cells #[.int .i64 a] 3))) (own_below HX0.out.1 (lboxM V0 (.cells #[.int .i64 a] 3))) hg1 (Nat.le_refl _); have H1 : Hid (W1.ownsRow V0.heap.size 3 1 (.slice A1 1 c1) 1 (izL ([] ++ [a])) ∧ Below V0.heap.size V0 W1) := Lib.hid ⟨by rw [izL_snoc]; exact ho1, hbb⟩; clear ho1 hg1 hv1 hbb b01 b02 b03; have hx1 := keepM HX.out.2 H1.out.2; have b11 := cellM hx1 1 rfl; have b12 := cellM hx1 2 rfl; have b13 := cellM hx1 3 rfl)
          go_quiet (fail)
          go_wp2
          go_ret2
          unfold UseP
          exact ⟨A1, c1, by rw [HU.out.1, HU.out.2]; rfl, by rw [HU.out.1]; exact own_done H1.out.1 rfl, below_drawn (onM HX.out.1 H1.out.2) _⟩
      | true =>
        cases bd with
        | false =>
          clear hba
          go_enter Tryd.func19, Tryd.ntmps19
          go_upto_region 5 with (go_at_call 30; (with_reducible refine (HN.out _).mono ?_); rintro e w1 ⟨rfl, rfl⟩)
          generalize w.alloc (.cells #[.int .i64 op, .int .i64 d, .int .i64 a, .int .i64 b, .int .u32 (k.toNat : Int), .int .i64 t, .int .i64 f] 59) = V0 at HX HX0 ⊢
          have b01 := cellM HX.out.2 1 rfl
          have b02 := cellM HX.out.2 2 rfl
          have b03 := cellM HX.out.2 3 rfl
          go_wp2_with (first
            | (at_builtin; refine wpList_append_own _ rfl (.tmp 34) (.tmp 37) 54 rfl 3 (.int .i64 0) 1 8 Tryd.underlying54 info_intM rfl (by decide) V0.heap.size (.slice A1 1 c1) 1 (izL ([] ++ [a])) rfl (own_below H1.out.1 (lboxM W1 (.cells #[.int .i64 b] 3))) ⟨W1.heap.size, 0, none⟩ 1 1 [.int .i64 b] rfl rfl (int_newM W1 (.int .i64 b) 3) (int_oneM _ _) (by unfold maxLen; omega) (by omega) (onM H1.out.2 (lboxM W1 (.cells #[.int .i64 b] 3))).size ?_; intro v2 W2 ho2 hg2 hv2; obtain ⟨A2, c2, rfl⟩ := own_formM ho2; have hbb := below_own (onM H1.out.2 (lboxM W1 (.cells #[.int .i64 b] 3))) (own_below H1.out.1 (lboxM W1 (.cells #[.int .i64 b] 3))) hg2 (Nat.le_refl _); have H2 : Hid (W2.ownsRow V0.heap.size 3 1 (.slice A2 2 c2) 2 (izL (([] ++ [a]) ++ [b])) ∧ Below V0.heap.size V0 W2) := Lib.hid ⟨by rw [izL_snoc]; exact ho2, hbb⟩; clear ho2 hg2 hv2 hbb b11 b12 b13; have hx2 := keepM HX.out.2 H2.out.2; have b21 := cellM hx2 1 rfl; have b22 := cellM hx2 2 rfl; have b23 := cellM hx2 3 rfl)
            | (at_builtin; refine wpList_append_own _ rfl (.tmp 28) (.tmp 31) 54 rfl 3 (.int .i64 0) 1 8 Tryd.underlying54 info_intM rfl (by decide) V0.heap.size (.slice none 0 0) 0 (izL []) rfl (own_below HX0.out.1 (lboxM V0 (.cells #[.int .i64 a] 3))) ⟨V0.heap.size, 0, none⟩ 1 1 [.int .i64 a] rfl rfl (int_newM V0 (.int .i64 a) 3) (int_oneM _ _) (by unfold maxLen; omega) (by omega) (onM HX0.out.2 (lboxM V0 (.cells #[.int .i64 a] 3))).size ?_; intro v1 W1 ho1 hg1 hv1; obtain ⟨A1, c1, rfl⟩ := own_formM ho1; have hbb := below_own (onM HX0.out.2 (lboxM V0 (.cells #[.int .i64 a] 3))) (own_below HX0.out.1 (lboxM V0 (.cells #[.int .i64 a] 3))) hg1 (Nat.le_refl _); have H1 : Hid (W1.ownsRow V0.heap.size 3 1 (.slice A1 1 c1) 1 (izL ([] ++ [a])) ∧ Below V0.heap.size V0 W1) := Lib.hid ⟨by rw [izL_snoc]; exact ho1, hbb⟩; clear ho1 hg1 hv1 hbb b01 b02 b03; have hx1 := keepM HX.out.2 H1.out.2; have b11 := cellM hx1 1 rfl; have b12 := cellM hx1 2 rfl; have b13 := cellM hx1 3 rfl))
          go_ret2
          unfold UseP
          exact ⟨A2, c2, by rw [HU.out.1, HU.out.2]; rfl, by rw [HU.out.1]; exact own_done H2.out.1 rfl, onM HX.out.1 H2.out.2⟩
        | true =>
          clear hba
          go_enter Tryd.func19, Tryd.ntmps19
          go_upto_region 5 with (go_at_call 30; (with_reducible refine (HN.out _).mono ?_); rintro e w1 ⟨rfl, rfl⟩)
          generalize w.alloc (.cells #[.int .i64 op, .int .i64 d, .int .i64 a, .int .i64 b, .int .u32 (k.toNat : Int), .int .i64 t, .int .i64 f] 59) = V0 at HX HX0 ⊢
          have b01 := cellM HX.out.2 1 rfl
          have b02 := cellM HX.out.2 2 rfl
          have b03 := cellM HX.out.2 3 rfl
          go_wp2_with (first
            | (at_builtin; refine wpList_append_own _ rfl (.tmp 34) (.tmp 37) 54 rfl 3 (.int .i64 0) 1 8 Tryd.underlying54 info_intM rfl (by decide) V0.heap.size (.slice A1 1 c1) 1 (izL ([] ++ [a])) rfl (own_below H1.out.1 (lboxM W1 (.cells #[.int .i64 b] 3))) ⟨W1.heap.size, 0, none⟩ 1 1 [.int .i64 b] rfl rfl (int_newM W1 (.int .i64 b) 3) (int_oneM _ _) (by unfold maxLen; omega) (by omega) (onM H1.out.2 (lboxM W1 (.cells #[.int .i64 b] 3))).size ?_; intro v2 W2 ho2 hg2 hv2; obtain ⟨A2, c2, rfl⟩ := own_formM ho2; have hbb := below_own (onM H1.out.2 (lboxM W1 (.cells #[.int .i64 b] 3))) (own_below H1.out.1 (lboxM W1 (.cells #[.int .i64 b] 3))) hg2 (Nat.le_refl _); have H2 : Hid (W2.ownsRow V0.heap.size 3 1 (.slice A2 2 c2) 2 (izL (([] ++ [a]) ++ [b])) ∧ Below V0.heap.size V0 W2) := Lib.hid ⟨by rw [izL_snoc]; exact ho2, hbb⟩; clear ho2 hg2 hv2 hbb b11 b12 b13; have hx2 := keepM HX.out.2 H2.out.2; have b21 := cellM hx2 1 rfl; have b22 := cellM hx2 2 rfl; have b23 := cellM hx2 3 rfl)
            | (at_builtin; refine wpList_append_own _ rfl (.tmp 28) (.tmp 31) 54 rfl 3 (.int .i64 0) 1 8 Tryd.underlying54 info_intM rfl (by decide) V0.heap.size (.slice none 0 0) 0 (izL []) rfl (own_below HX0.out.1 (lboxM V0 (.cells #[.int .i64 a] 3))) ⟨V0.heap.size, 0, none⟩ 1 1 [.int .i64 a] rfl rfl (int_newM V0 (.int .i64 a) 3) (int_oneM _ _) (by unfold maxLen; omega) (by omega) (onM HX0.out.2 (lboxM V0 (.cells #[.int .i64 a] 3))).size ?_; intro v1 W1 ho1 hg1 hv1; obtain ⟨A1, c1, rfl⟩ := own_formM ho1; have hbb := below_own (onM HX0.out.2 (lboxM V0 (.cells #[.int .i64 a] 3))) (own_below HX0.out.1 (lboxM V0 (.cells #[.int .i64 a] 3))) hg1 (Nat.le_refl _); have H1 : Hid (W1.ownsRow V0.heap.size 3 1 (.slice A1 1 c1) 1 (izL ([] ++ [a])) ∧ Below V0.heap.size V0 W1) := Lib.hid ⟨by rw [izL_snoc]; exact ho1, hbb⟩; clear ho1 hg1 hv1 hbb b01 b02 b03; have hx1 := keepM HX.out.2 H1.out.2; have b11 := cellM hx1 1 rfl; have b12 := cellM hx1 2 rfl; have b13 := cellM hx1 3 rfl))
          go_quiet (fail)
          go_wp2
          go_ret2
          unfold UseP
          exact ⟨A2, c2, by rw [HU.out.1, HU.out.2]; rfl, by rw [HU.out.1]; exact own_done H2.out.1 rfl, below_drawn (onM HX.out.1 H2.out.2) _⟩
  · have HU : Hid (useL x = [] ∧ useD x = -1) := Lib.hid (by
      have g1 : dM x.op = false := by simp [dM]; omega
      have g2 : aM x.op = false := by simp [aM]; omega
      have g3 : bM x.op = false := by simp [bM]; omega
      exact use_is (x := x) g1 g2 g3 (fun h => (by cases h)))
    generalize useL x = L at HU ⊢
    generalize useD x = D at HU ⊢
    obtain ⟨op, d, a, b, k, t, f⟩ := x
    simp only at hop
    by_cases q1 : op < 1
    · clear hop
      go_enter Tryd.func19, Tryd.ntmps19
      go_wp2
      go_ret2
      unfold UseP
      exact ⟨none, 0, by rw [HU.out.1, HU.out.2]; rfl, by rw [HU.out.1]; exact fun h => absurd h (by simp), HX.out.1⟩
    · have q2 : 19 < op := by omega
      clear hop
      go_enter Tryd.func19, Tryd.ntmps19
      go_wp2
      go_ret2
      unfold UseP
      exact ⟨none, 0, by rw [HU.out.1, HU.out.2]; rfl, by rw [HU.out.1]; exact fun h => absurd h (by simp), HX.out.1⟩
end Go.Proofs.YtoajommeiocfpaaDoor
namespace Go.Proofs.YtoajommeiocfpaaDoor
open Go Go.RowKit
set_option linter.unusedSimpArgs false
set_option linter.unusedVariables false
set_option maxRecDepth 100000

/-- Of so many numbers those that are places; of these each but once. -/
def fN (n : Nat) (L : List Int) : Nat → List Int
  | 0 => []
  | k + 1 => if 0 ≤ L.getD k 0 ∧ L.getD k 0 < n then fN n L k ++ [L.getD k 0] else fN n L k
def dN (n : Nat) (L : List Int) : Nat → List Int
  | 0 => []
  | k + 1 => if (0 ≤ L.getD k 0 ∧ L.getD k 0 < n) ∧ L.getD k 0 ∉ dN n L k then dN n L k ++ [L.getD k 0] else dN n L k
theorem fN_le (n : Nat) (L : List Int) : ∀ k, (fN n L k).length ≤ k
  | 0 => Nat.le_refl _
  | k + 1 => by
    have := fN_le n L k
    unfold fN
    split
    · rw [List.length_append]; simp; omega
    · omega
theorem dN_le (n : Nat) (L : List Int) : ∀ k, (dN n L k).length ≤ k
  | 0 => Nat.le_refl _
  | k + 1 => by
    have := dN_le n L k
    unfold dN
    split
    · rw [List.length_append]; simp; omega
    · omega
def allN (x : Irx) (at_ : Int) : List Int := if x.op < 1 ∨ 19 ≤ x.op then [] else if x.op = 14 then [x.t] else if 15 ≤ x.op then (if x.t = x.f then [x.t] else [x.t, x.f]) else [at_ + 1]
def wayL (x : Irx) (at_ : Int) : List Int := if 0 < aimN x.op then aimL x (aimN x.op) else if dM x.op = true then [at_ + 1] else []
theorem way_len (x : Irx) (at_ : Int) : (wayL x at_).length ≤ 2 := by
  unfold wayL
  split
  · rw [aim_len x (aim_le x.op)]; exact aim_le x.op
  · split <;> simp
theorem all_len (x : Irx) (at_ : Int) : (allN x at_).length ≤ 2 := by
  unfold allN
  split
  · simp
  · split
    · simp
    · split
      · split <;> simp
      · simp
theorem way_all (x : Irx) (at_ : Int) (n : Nat) : dN n (wayL x at_) (wayL x at_).length = fN n (allN x at_) (allN x at_).length := by
  have h1 : ∀ z : Int, dN n [z] 1 = fN n [z] 1 := fun z => by simp [dN, fN]
  by_cases hop : 1 ≤ x.op ∧ x.op ≤ 19
  · have hd : dM x.op = decide (x.op ≤ 13) := by unfold dM; simp; omega
    have ht : tM x.op = decide (14 ≤ x.op ∧ x.op ≤ 18) := rfl
    have hf : fM x.op = decide (15 ≤ x.op ∧ x.op ≤ 18) := rfl
    unfold wayL allN aimN
    by_cases g13 : x.op ≤ 13
    · have e1 : fM x.op = false := by rw [hf]; simp; omega
      have e2 : tM x.op = false := by rw [ht]; simp; omega
      have e3 : dM x.op = true := by rw [hd]; simp; omega
      rw [e1, e2, e3, if_neg (show ¬ (x.op < 1 ∨ 19 ≤ x.op) by omega), if_neg (show ¬ x.op = 14 by omega), if_neg (show ¬ 15 ≤ x.op by omega)]
      simp only [Bool.false_eq_true, if_false, Nat.lt_irrefl, if_true, List.length_cons, List.length_nil]
      exact h1 _
    · by_cases g14 : x.op = 14
      · have e1 : fM x.op = false := by rw [hf]; simp; omega
        have e2 : tM x.op = true := by rw [ht]; simp; omega
        rw [e1, e2, if_neg (show ¬ (x.op < 1 ∨ 19 ≤ x.op) by omega), if_pos g14]
        simp only [Bool.false_eq_true, if_false, if_true, Nat.lt_irrefl, Nat.zero_lt_one, aimL, List.take_succ_cons, List.take_zero, List.length_cons, List.length_nil]
        exact h1 _
      · by_cases g18 : x.op ≤ 18
        · have e1 : fM x.op = true := by rw [hf]; simp; omega
          rw [e1, if_neg (show ¬ (x.op < 1 ∨ 19 ≤ x.op) by omega), if_neg g14, if_pos (show 15 ≤ x.op by omega)]
          simp only [if_true, show (0 : Nat) < 2 by decide, aimL, List.take_succ_cons, List.take_zero]
          by_cases e : x.t = x.f
          · rw [if_pos e, e]
            simp only [List.length_cons, List.length_nil]
            by_cases hin : 0 ≤ x.f ∧ x.f < (n : Int)
            · simp [dN, fN, hin]
            · simp [dN, fN, hin]
          · rw [if_neg e]
            simp only [List.length_cons, List.length_nil]
            by_cases hin : 0 ≤ x.t ∧ x.t < (n : Int)
            · have e' : ¬ x.f = x.t := fun h => e h.symm
              by_cases hin2 : 0 ≤ x.f ∧ x.f < (n : Int)
              · simp [dN, fN, hin, hin2, e']
              · simp [dN, fN, hin, hin2, e']
            · by_cases hin2 : 0 ≤ x.f ∧ x.f < (n : Int)
              · simp [dN, fN, hin, hin2]
              · simp [dN, fN, hin, hin2]
        · have e1 : fM x.op = false := by rw [hf]; simp; omega
          have e2 : tM x.op = false := by rw [ht]; simp; omega
          have e3 : dM x.op = false := by rw [hd]; simp; omega
          rw [e1, e2, e3, if_pos (show (x.op < 1 ∨ 19 ≤ x.op) by omega)]
          simp [dN, fN]
  · have e1 : fM x.op = false := by unfold fM; simp; omega
    have e2 : tM x.op = false := by unfold tM; simp; omega
    have e3 : dM x.op = false := by unfold dM; simp; omega
    unfold wayL allN aimN
    rw [e1, e2, e3, if_pos (show (x.op < 1 ∨ 19 ≤ x.op) by omega)]
    simp [dN, fN]
/-- What is told of a place. -/
def nextM (n : Nat) (q : Nat → Irx) (at_ : Int) : List Int := if at_ < 0 ∨ (n : Int) ≤ at_ then [] else fN n (allN (q at_.toNat) at_) (allN (q at_.toNat) at_).length
theorem next_len (n : Nat) (q : Nat → Irx) (at_ : Int) : (nextM n q at_).length ≤ 2 := by
  unfold nextM
  split
  · simp
  · exact Nat.le_trans (fN_le _ _ _) (all_len _ _)
def NexP (L : List Int) (w : World) (e : Ending) (w' : World) : Prop := ∃ A c, e = .returned (.slice A L.length c) ∧ IzAt w' A L ∧ Below w.heap.size w w'
/-! ### The program -/
def idxZ (z : Int) : List Int → Int → Int
  | [], _ => -1
  | y :: r, k => if z = y then k else idxZ z r (k + 1)
theorem idxZ_has (z : Int) : ∀ (l : List Int) (k : Int), 0 ≤ k → (decide (0 ≤ idxZ z l k) = decide (z ∈ l))
  | [], k, hk => by simp [idxZ]
  | y :: r, k, hk => by
    unfold idxZ
    by_cases h : z = y
    · rw [if_pos h]; simp [h, hk]
    · rw [if_neg h, idxZ_has z r (k + 1) (by omega)]; simp [h]
theorem idxZ_at (z : Int) : ∀ (l : List Int) (k : Int) (j : Nat), (∀ i, i < j → z ≠ l.getD i 0) → j ≤ l.length → idxZ z l k = idxZ z (l.drop j) (k + j)
  | l, k, 0, _, _ => by simp
  | [], k, j + 1, _, hj => absurd hj (by simp)
  | y :: r, k, j + 1, h, hj => by
    have h0 : z ≠ y := h 0 (by omega)
    rw [idxZ, if_neg h0, idxZ_at z r (k + 1) j (fun i hi => by have := h (i + 1) (by omega); simpa using this) (by simpa using hj)]
    rw [List.drop_succ_cons, show k + 1 + (j : Int) = k + ((j + 1 : Nat) : Int) by omega]
theorem p_Contains (A : Option Addr) (c : Nat) (l : List Int) (z : Int) (hl : l.length ≤ 100000) (w : World) (h : IzAt w A l) : Calls Tryd.prog 49 #[.slice A l.length c, .int .i64 z] w fun e w' => e = .returned (.bool (decide (z ∈ l))) ∧ w' = w := by
  have HI := Lib.hid h
  clear h
  have hx : Hid (Calls Tryd.prog 61 #[.slice A l.length c, .int .i64 z] w fun e w' => e = .returned (.int .i64 (idxZ z l 0)) ∧ w' = w) := Lib.hid (by
    obtain ⟨r, hr⟩ : ∃ r, r = idxZ z l 0 := ⟨_, rfl⟩
    rw [← hr]
    have HR := Lib.hid hr
    clear hr
    go_enter Tryd.func61, Tryd.ntmps61
    go_wp2
    go_loopw [8] (fun v wr => ∃ k : Nat, k ≤ l.length ∧ v = .int .i64 (k : Int) ∧ (∀ i, i < k → z ≠ l.getD i 0) ∧ wr = w) (fun v _ => l.length - (intOf v).toNat)
    case atStart => exact ⟨0, by omega, rfl, fun i hi => absurd hi (by omega), rfl⟩
    case round =>
      obtain ⟨k, hk, rfl, hall, rfl⟩ := hrel
      have HA := Lib.hid hall
      clear hall
      by_cases hlt : k < l.length
      · have hlt' : (k : Int) < (l.length : Int) := by omega
        obtain ⟨b, o, rfl, hb, hc⟩ := iz_cell HI.out hlt
        by_cases he : z = l.getD k 0
        · have hq : (z == l.getD k 0) = true := beq_iff_eq.2 he
          have HE := Lib.hid he
          have HY : Hid (r = (k : Int)) := Lib.hid (by
            rw [HR.out, idxZ_at z l 0 k HA.out hk, List.drop_eq_getElem_cons hlt, idxZ, if_pos (by rw [he, List.getD_eq_getElem?_getD, List.getElem?_eq_getElem hlt]; rfl)]
            omega)
          clear he
          generalize l.getD k 0 = y at hc hq
          go_wp2
          go_ret
          exact ⟨ret_iM HY.out.symm, rfl⟩
        · have hq : (z == l.getD k 0) = false := beq_false_of_ne he
          have HE := Lib.hid he
          clear he
          generalize hy : l.getD k 0 = y at hc hq
          have HY := Lib.hid hy
          clear hy
          go_wp2
          exact ⟨⟨k + 1, by omega, by go_num, fun i hi => by
            rcases Nat.lt_or_ge i k with g | g
            · exact HA.out i g
            · rw [show i = k by omega]; exact HE.out, by first | rfl | trivial⟩, by simp [intOf]; omega⟩
      · have HY : Hid (r = -1) := Lib.hid (by rw [HR.out, idxZ_at z l 0 k HA.out hk, List.drop_eq_nil_of_le (by omega)]; rfl)
        go_wp2
        go_ret
        exact ⟨ret_iM HY.out.symm, rfl⟩)
  rw [← idxZ_has z l 0 (Int.le_refl 0)]
  generalize idxZ z l 0 = r at hx ⊢
  go_enter Tryd.func49, Tryd.ntmps49
  go_wp2_with (go_at_call 61; (with_reducible refine hx.out.mono ?_); rintro e w1 ⟨rfl, rfl⟩)
  go_ret
  exact ⟨rfl, rfl⟩
set_option maxHeartbeats 4000000 in
theorem p_ways (x : Irx) (at_ : Nat) (hat : at_ < maxLen) (w : World) : Calls Tryd.prog 48 #[irV x, .int .i64 (at_ : Int)] w (NexP (wayL x at_) w) := by
  have hlen := aim_len x (aim_le x.op)
  have HA : Hid (∀ V, Calls Tryd.prog 60 #[shV (dM x.op) (askN x.op) (aimN x.op), irV x] V fun e w' => ∃ A c, e = .returned (.slice A (aimL x (aimN x.op)).length c) ∧ IzAt w' A (aimL x (aimN x.op)) ∧ Below V.heap.size V w') := Lib.hid fun V => (p_targets x (dM x.op) (askN x.op) (aimN x.op) (aim_le x.op) V).mono fun e w' ⟨v, he, ho, hb⟩ => by
    obtain ⟨A, c, rfl⟩ := own_formM ho
    rw [hlen]
    exact ⟨A, c, he, own_iz (by rw [hlen]; exact ho), hb⟩
  have HS := Lib.hid (fun V => p_shapeOf x.op V)
  have HW : Hid (wayL x at_ = if 0 < aimN x.op then aimL x (aimN x.op) else if dM x.op = true then [(at_ : Int) + 1] else []) := Lib.hid rfl
  have hw1 : IntKind.i64.wrap ((at_ : Int) + 1) = (at_ : Int) + 1 := IntWalk.i64_in _ (by unfold maxLen at hat; omega)
  generalize wayL x at_ = L at HW ⊢
  clear hlen
  generalize aimL x (aimN x.op) = L1 at HA HW
  generalize dM x.op = sb at HA HS HW
  generalize askN x.op = sk at HA HS
  generalize aimN x.op = sm at HA HS HW
  obtain ⟨op, d, a, b, k, t, f⟩ := x
  simp only at HS
  have hXX : Hid (∀ w1, Below (w.alloc (irO ⟨op, d, a, b, k, t, f⟩)).heap.size (w.alloc (irO ⟨op, d, a, b, k, t, f⟩)) w1 →
      Below w.heap.size w (w1.alloc (shO sb sk sm)) ∧ (w1.alloc (shO sb sk sm)).heap[w.heap.size]? = some (irO ⟨op, d, a, b, k, t, f⟩) ∧ (w1.alloc (shO sb sk sm)).heap[w1.heap.size]? = some (shO sb sk sm)) := Lib.hid fun w1 hb =>
    ⟨onM (onM (lboxM w _) hb) (lboxM w1 _), keepM (keepM (World.alloc_heap_new w _) hb) (lboxM w1 _), World.alloc_heap_new w1 _⟩
  go_enter Tryd.func48, Tryd.ntmps48
  go_upto_region 2 with (go_at_call 57; (with_reducible refine (HS.out _).mono ?_); rintro e w1 ⟨rfl, hb1⟩; have HX := Lib.hid (hXX.out w1 hb1); clear hb1)
  generalize w1.alloc (.cells #[.bool sb, .int .i64 (sk : Int), .int .i64 (sm : Int)] 104) = X at HX ⊢
  generalize w1.heap.size = bs at HX ⊢
  clear hXX HS
  have u0 := cellM HX.out.2.1 0 rfl
  have u1 := cellM HX.out.2.1 1 rfl
  have u2 := cellM HX.out.2.1 2 rfl
  have u3 := cellM HX.out.2.1 3 rfl
  have u4 := cellM HX.out.2.1 4 rfl
  have u5 := cellM HX.out.2.1 5 rfl
  have u6 := cellM HX.out.2.1 6 rfl
  have v0 := cellM HX.out.2.2 0 rfl
  have v1 := cellM HX.out.2.2 1 rfl
  have v2 := cellM HX.out.2.2 2 rfl
  by_cases hm : 0 < sm
  · have hm' : (0 : Int) < (sm : Int) := by omega
    go_wp2_with (go_at_call 60; (with_reducible refine (HA.out _).mono ?_); rintro e w2 ⟨A, c, rfl, hi, hb⟩; have HZ := Lib.hid (And.intro hi (onM HX.out.1 hb)); clear hi hb)
    go_ret
    unfold NexP
    rw [HW.out, if_pos hm]
    exact ⟨A, c, rfl, HZ.out.1, HZ.out.2⟩
  · have hm' : ¬ (0 : Int) < (sm : Int) := by omega
    cases sb with
    | true =>
      have HQ := Lib.hid (And.intro (own_one1 (V := X.alloc (.cells #[.int .i64 ((at_ : Int) + 1)] 3)) (B := 0) (World.alloc_heap_new X _) (Nat.zero_le _)) (onM HX.out.1 (lboxM X (.cells #[.int .i64 ((at_ : Int) + 1)] 3))))
      go_wp2
      go_ret
      unfold NexP
      rw [HW.out, if_neg hm]
      simp only [if_true]
      exact ⟨_, _, rfl, own_iz HQ.out.1, HQ.out.2⟩
    | false =>
      go_wp2
      go_ret
      unfold NexP
      rw [HW.out, if_neg hm, if_neg (by decide)]
      exact ⟨none, 0, rfl, fun h => absurd h (by simp), HX.out.1⟩
/-- A row that grows by the numbers that are told. -/
abbrev GrowP (V wr : World) (out : Value) (L : List Int) : Prop := wr.ownsRow V.heap.size 3 1 out L.length (izL L) ∧ Below V.heap.size V wr
set_option maxHeartbeats 8000000 in
theorem p_Next (regs : Int) (A : Option Addr) (n cap : Nat) (q : Nat → Irx) (at_ : Int) (w : World) (h : IrAt w A n q) : Calls Tryd.prog 37 #[mirV regs A n cap, .int .i64 at_] w (NexP (nextM n q at_) w) := by
  have HF := Lib.hid (FM.first (regs := regs) (cap := cap) h)
  clear h
  by_cases h1 : at_ < 0
  · have HN : Hid (nextM n q at_ = []) := Lib.hid (if_pos (.inl h1))
    generalize nextM n q at_ = L at HN ⊢
    go_enter Tryd.func37, Tryd.ntmps37
    go_wp2
    go_ret
    unfold NexP
    rw [HN.out]
    exact ⟨none, 0, rfl, fun h => absurd h (by simp), HF.out.2.1⟩
  by_cases h2 : (n : Int) ≤ at_
  · have HN : Hid (nextM n q at_ = []) := Lib.hid (if_pos (.inr h2))
    generalize nextM n q at_ = L at HN ⊢
    go_enter Tryd.func37, Tryd.ntmps37
    go_wp2
    go_ret
    unfold NexP
    rw [HN.out]
    exact ⟨none, 0, rfl, fun h => absurd h (by simp), HF.out.2.1⟩
  obtain ⟨m, rfl⟩ : ∃ m : Nat, at_ = (m : Int) := ⟨at_.toNat, by omega⟩
  have hm : m < n := by omega
  have hm' : (m : Int) < (n : Int) := by omega
  have hnm := HF.out.1.1
  obtain ⟨qb, qo, rfl, hl, c0, c1, c2, c3, c4, c5, c6⟩ := ir_at HF.out.1 hm
  have HN : Hid (nextM n q (m : Int) = dN n (wayL (q m) m) (wayL (q m) m).length) := Lib.hid (by unfold nextM; rw [if_neg (by omega), Int.toNat_natCast, way_all])
  have HW := Lib.hid (fun V => p_ways (q m) m (by omega) V)
  unfold NexP at HW
  have hll := way_len (q m) m
  generalize nextM n q (m : Int) = LR at HN ⊢
  generalize wayL (q m) m = Lw at HN HW hll
  generalize q m = x at HW c0 c1 c2 c3 c4 c5 c6
  obtain ⟨op, d, a, b, k, t, f⟩ := x
  go_enter Tryd.func37, Tryd.ntmps37
  go_wp2_with (go_at_call 48; (with_reducible refine (HW.out _).mono ?_); rintro e w2 ⟨A0, c0', rfl, hi, hb⟩; have H2 := Lib.hid (And.intro hi (And.intro (onM HF.out.2.1 hb) (keepM HF.out.2.2 hb))); clear hi hb)
  clear c0 c1 c2 c3 c4 c5 c6 HW HF
  go_loopw [5, 25] (fun out v wr => ∃ kk : Nat, kk ≤ Lw.length ∧ v = .int .i64 (kk : Int) ∧ GrowP w2 wr out (dN n Lw kk)) (fun _ v _ => Lw.length - (intOf v).toNat)
  case atStart => exact ⟨0, by omega, rfl, World.ownsRow_nil _ _ _ _, Below.refl _ _⟩
  case round =>
    obtain ⟨kk, hkk, rfl, ho, hb⟩ := hrel
    obtain ⟨Ao, co, rfl⟩ := own_formM ho
    have HO := Lib.hid (And.intro ho hb)
    have hdl := dN_le n Lw kk
    have p0 := cellM (keepM H2.out.2.2 hb) 0 rfl
    have p1 := cellM (keepM H2.out.2.2 hb) 1 rfl
    by_cases hlt : kk < Lw.length
    · have hlt' : (kk : Int) < (Lw.length : Int) := by omega
      obtain ⟨b1, o1, rfl, hl1, hc1⟩ := iz_cell (H2.out.1.below hb) hlt
      have HC := Lib.hid (p_Contains Ao co (dN n Lw kk) (Lw.getD kk 0) (by omega) wr (own_iz ho))
      have HD : Hid (dN n Lw (kk + 1) = if (0 ≤ Lw.getD kk 0 ∧ Lw.getD kk 0 < n) ∧ Lw.getD kk 0 ∉ dN n Lw kk then dN n Lw kk ++ [Lw.getD kk 0] else dN n Lw kk) := Lib.hid rfl
      clear ho hb
      generalize Lw.getD kk 0 = z at hc1 HC HD
      generalize dN n Lw kk = Ld at HO HC HD hdl
      by_cases g1 : z < 0
      · have HE : Hid (dN n Lw (kk + 1) = Ld) := Lib.hid (HD.out.trans (if_neg (by omega)))
        have g1' : ¬ 0 ≤ z := by omega
        clear HD HC
        go_wp2
        exact ⟨⟨kk + 1, by omega, by go_num, by rw [HE.out]; exact HO.out.1, HO.out.2⟩, by simp [intOf]; omega⟩
      have g1' : 0 ≤ z := by omega
      by_cases g2 : (n : Int) ≤ z
      · have HE : Hid (dN n Lw (kk + 1) = Ld) := Lib.hid (HD.out.trans (if_neg (by omega)))
        have g2' : ¬ z < (n : Int) := by omega
        clear HD HC
        go_wp2
        exact ⟨⟨kk + 1, by omega, by go_num, by rw [HE.out]; exact HO.out.1, HO.out.2⟩, by simp [intOf]; omega⟩
      have g2' : z < (n : Int) := by omega
      by_cases g3 : z ∈ Ld
      · have HE : Hid (dN n Lw (kk + 1) = Ld) := Lib.hid (HD.out.trans (if_neg (fun g => g.2 g3)))
        rw [decide_eq_true g3] at HC
        clear HD g3
        go_wp2_with (go_at_call 49; (with_reducible refine HC.out.mono ?_); rintro e w4 ⟨rfl, rfl⟩)
        exact ⟨⟨kk + 1, by omega, by go_num, by rw [HE.out]; exact HO.out.1, HO.out.2⟩, by simp [intOf]; omega⟩
      · have HE : Hid (dN n Lw (kk + 1) = Ld ++ [z]) := Lib.hid (HD.out.trans (if_pos ⟨⟨g1', g2'⟩, g3⟩))
        rw [decide_eq_false g3] at HC
        clear HD g3
        have HA := Lib.hid (And.intro (own_below HO.out.1 (lboxM wr (.cells #[.int .i64 z] 3))) (And.intro (onM HO.out.2 (lboxM wr (.cells #[.int .i64 z] 3))) (int_newM wr (.int .i64 z) 3)))
        go_wp2_with (first
          | (go_at_call 49; (with_reducible refine HC.out.mono ?_); rintro e w4 ⟨rfl, rfl⟩)
          | (at_builtin; refine wpList_append_own _ rfl (.tmp 44) (.tmp 46) 54 rfl 3 (.int .i64 0) 1 8 Tryd.underlying54 info_intM rfl (by decide) w2.heap.size (.slice Ao Ld.length co) Ld.length (izL Ld) rfl HA.out.1 ⟨w4.heap.size, 0, none⟩ 1 1 [.int .i64 z] rfl rfl HA.out.2.2 (int_oneM _ _) (by unfold maxLen; omega) (by omega) HA.out.2.1.size ?_; intro v' w' ho' hg' hv'; have HZ := Lib.hid (And.intro ho' (below_own HA.out.2.1 HA.out.1 hg' (Nat.le_refl _))); clear ho' hg' hv'))
        exact ⟨⟨kk + 1, by omega, by go_num, by rw [HE.out, izL_snoc, List.length_append]; exact HZ.out.1, HZ.out.2⟩, by simp [intOf]; omega⟩
    · obtain rfl : kk = Lw.length := by omega
      clear ho hb
      have HQ := Lib.hid (And.intro (own_iz HO.out.1) (onM H2.out.2.1 HO.out.2))
      go_wp2
      go_ret
      unfold NexP
      rw [HN.out]
      exact ⟨Ao, co, rfl, HQ.out.1, HQ.out.2⟩
end Go.Proofs.YtoajommeiocfpaaDoor
