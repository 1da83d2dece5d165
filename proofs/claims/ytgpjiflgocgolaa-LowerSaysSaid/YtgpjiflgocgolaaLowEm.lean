/-
  A node's instructions, laid by the program: contracts. Conditions: those that each names.
-/
import Derived.Test.YtgpjiflgocgolaaLowPrg
import Derived.Shelf.Abstract
namespace Go.Proofs.Ytgpjiflgocgolaa
open Go Go.RowKit
set_option linter.unusedSimpArgs false
set_option linter.unusedVariables false

theorem kept_allocL {W : World} {B : Nat} {o : Obj} (h : W.heap[B]? = some o) (o' : Obj) : (W.alloc o').heap[B]? = some o :=
  (Below.heap_alloc W o' B (Array.getElem?_eq_some_iff.1 h).1).trans h
theorem p_jumpCode (o : Int) (w : World) : Calls Try.prog 90 #[.int .i64 o] w fun e w' => e = .returned (.int .u16 (codeN o : Int)) ∧ w' = w := by
  unfold codeN
  by_cases h1 : o = 1
  · subst h1
    go_enter Try.func90, Try.ntmps90
    go_wp2
    go_ret
    exact ⟨rfl, rfl⟩
  have h1b : (o == 1) = false := beq_false_of_ne h1
  by_cases h2 : o = 2
  · subst h2
    go_enter Try.func90, Try.ntmps90
    go_wp2
    go_ret
    exact ⟨rfl, rfl⟩
  have h2b : (o == 2) = false := beq_false_of_ne h2
  by_cases h3 : o = 3
  · subst h3
    go_enter Try.func90, Try.ntmps90
    go_wp2
    go_ret
    exact ⟨rfl, rfl⟩
  have h3b : (o == 3) = false := beq_false_of_ne h3
  rw [if_neg h1, if_neg h2, if_neg h3]
  clear h1 h2 h3
  go_enter Try.func90, Try.ntmps90
  go_wp2
  go_ret
  exact ⟨rfl, rfl⟩
theorem u32_wrap (z : Int) : IntKind.u32.wrap z = (u32N z : Int) := by
  unfold u32N
  have : IntKind.u32.wrap z = z % 4294967296 := rfl
  rw [this]; omega
theorem u8_wrap (z : Int) : IntKind.u8.wrap z = (u8N z : Int) := by
  unfold u8N
  have : IntKind.u8.wrap z = z % 256 := rfl
  rw [this]; omega
theorem p_longWay (z : Int) (w : World) : Calls Try.prog 91 #[.int .i64 z] w fun e w' => e = .returned (i4V (5, 0, 0, u32N z)) ∧ Below w.heap.size w w' := by
  have HB := Lib.hid (fun o => lboxL w o)
  have hw := u32_wrap z
  generalize u32N z = u at hw ⊢
  go_enter Try.func91, Try.ntmps91
  go_wp2
  (try simp only [Exit.inBlock, Exit.then])
  have hx := World.alloc_heap_new w (i4O (5, 0, 0, u))
  have d0 := cellL hx 0 rfl
  have d1 := cellL hx 1 rfl
  have d2 := cellL hx 2 rfl
  have d3 := cellL hx 3 rfl
  refine bodyPost_ret (v := i4V (5, 0, 0, u)) ?_ rfl ⟨rfl, HB.out _⟩
  simp [results, Try.results91, go_sem, d0, d1, d2, d3]
  done
/-- How far a test's ways are at most. -/
theorem over_in {nd : Nat → Nd} {lg : Ways} {n i : Nat} (hn : n ≤ 4096) (hi : i < n) (hw : ((i : Int) < (nd i).t ∧ (nd i).t < n) ∧ ((i : Int) < (nd i).f ∧ (nd i).f < n)) : (-30000 ≤ overT nd lg i ∧ overT nd lg i ≤ 30000) ∧ (-30000 ≤ overF nd lg i ∧ overF nd lg i ≤ 30000) := by
  have h1 := first_le nd lg (nd i).t.toNat
  have h2 := first_le nd lg (nd i).f.toNat
  have h3 := first_le nd lg (i + 1)
  have h4 := many_le (lg i)
  unfold overT overF behN
  omega
set_option maxHeartbeats 8000000 in
set_option maxRecDepth 100000 in
theorem p_layJump {B : Nat} {W : World} {b : Nat} {A : Option Addr} {n cap : Nat} {nd : Nat → Nd} {lb fb : Nat} {lg : Ways} {B0 : Nat} {S : Nat → Prop} (h : LayAt B0 W b A n cap nd lb fb lg (firstN nd lg)) (hn : n ≤ 4096) {i : Nat} (hi : i < n)
    (hways : ((i : Int) < (nd i).t ∧ (nd i).t < n) ∧ ((i : Int) < (nd i).f ∧ (nd i).f < n)) (hB : B ≤ W.heap.size) {pb : Nat} {xs : List I4} (hp : PrgAt B W pb xs S) (hx : xs.length ≤ 100000000) :
    Calls Try.prog 54 #[.pointer (some ⟨b, 0, none⟩), .int .i64 i, .func (.func 29) #[.pointer (some ⟨pb, 0, none⟩)] #[]] W fun e w' =>
      e = .returned (.tuple #[]) ∧ PrgAt B w' pb (xs ++ ([jumpN nd lg i] ++ (wayT nd lg i ++ wayF nd lg i))) (fun _ => False) ∧ Below B W w' := by
  have hlt' : (i : Int) < (n : Int) := by omega
  obtain ⟨ab, ao, rfl, hl, c0, c1, c2, c3, c4, c5, c6, c7⟩ := nd_at h.nds hi
  clear hl c0 c1 c2 c3 c4 c5 c6 c7
  have HL := Lib.hid (And.intro h hp)
  clear h hp
  go_enter Try.func54, Try.ntmps54
  go_upto_region 0 with fail
  rename_i K9 hK9
  have rest : ∀ (Z : World) (nb wb : Nat) (u12 u13 u14 u15 u16 u17 u18 u19 u20 u21 u22 u23 u24 u25 : Value), LayAt B0 Z b (some ⟨ab, ao, none⟩) n cap nd lb fb lg (firstN nd lg) → PrgAt B Z pb xs (fun k => k = nb ∨ k = wb) → Below B W Z → Z.heap[nb]? = some (ndO (nd i)) → Z.heap[wb]? = some (.cells #[.bool (lg i).1, .bool (lg i).2] 99) →
      K9 { tmps := #[.pointer (some ⟨b, 0, none⟩), .int .i64 i, .func (.func 29) #[.pointer (some ⟨pb, 0, none⟩)] #[], undef, undef, undef, .pointer (some ⟨nb, 0, none⟩), .pointer (some ⟨wb, 0, none⟩), undef, undef, undef, undef, u12, u13, u14, u15, u16, u17, u18, u19, u20, u21, u22, u23, u24, u25, undef, undef, undef, undef, undef, undef, undef, undef, undef, undef, undef, undef, undef, undef, undef, undef, undef, undef, undef, undef, undef, undef, undef, undef, undef, undef, undef, undef, undef, undef, undef, undef, undef, undef, undef, undef, undef, undef, undef, undef, undef, undef, undef], defers := [] } Z := by
    intro Z nb wb u12 u13 u14 u15 u16 u17 u18 u19 u20 u21 u22 u23 u24 u25 hl hp hb hnb hwb
    refine hK9 _ _ ?_
    clear hK9 K9 HL
    rcases hlg : lg i with ⟨lt, lf⟩
    rw [hlg] at hwb
    cases lt with
    | true =>
      cases lf with
      | true =>
        have HP := Lib.hid (And.intro hp (And.intro hb (And.intro hnb hwb)))
        have HO := Lib.hid (p_over hl hn hi rfl hways)
        have HB := Lib.hid (And.intro hB hlg)
        clear hl hp hb hnb hwb hB
        have hen : ∀ args w, (callFunc 29 args).run Try.prog w = .ok (.enter 29 args) w := Go.Proofs.enters_of Try.func29 (by kernel_rfl) rfl
        have HM : Hid (∀ w, Calls Try.prog 89 #[.agg #[.bool true, .bool true]] w fun e w' => e = .returned (.int .i64 2) ∧ Below w.heap.size w w') := Lib.hid (fun w => p_many (true, true) w)
        have hbo := over_in (nd := nd) (lg := lg) hn hi hways
        have HJ : Hid (jumpN nd lg i = (codeN (nd i).op, u8N (0), u8N (1), (nd i).k) ∧ wayT nd lg i = [(5, 0, 0, u32N (overT nd lg i - 1))] ∧ wayF nd lg i = [(5, 0, 0, u32N (overF nd lg i - 2))]) := Lib.hid (by unfold jumpN wayT wayF; rw [hlg]; exact ⟨rfl, rfl, rfl⟩)
        generalize overT nd lg i = oT at HO hbo HJ
        generalize overF nd lg i = oF at HO hbo HJ
        have hx8 : IntKind.u8.wrap (0 : Int) = ((u8N (0) : Nat) : Int) := u8_wrap _
        have hy8 : IntKind.u8.wrap (1 : Int) = ((u8N (1) : Nat) : Int) := u8_wrap _
        have hwT : IntKind.i64.wrap (oT - 1) = oT - 1 := IntWalk.i64_in _ (by omega)
        have hwF : IntKind.i64.wrap (oF - 2) = oF - 2 := IntWalk.i64_in _ (by omega)
        have HC := Lib.hid (fun w => p_jumpCode (nd i).op w)
        clear hways hlg
        generalize nd i = x at HP HC HJ
        obtain ⟨leaf, word, off, mask, op, k, t, f⟩ := x
        generalize codeN op = cop at HC HJ
        have HL := Lib.hid (fun z w => p_longWay z w)
        go_upto_region 7 with (first
          | (go_at_call 53; (with_reducible refine HO.out.mono ?_); rintro e w1 ⟨rfl, hb1⟩; have H1 : Hid (PrgAt B w1 pb xs (fun k => k = nb ∨ k = wb) ∧ Below B W w1 ∧ w1.heap[nb]? = some (ndO ⟨leaf, word, off, mask, op, k, t, f⟩) ∧ w1.heap[wb]? = some (.cells #[.bool true, .bool true] 99)) := Lib.hid ⟨HP.out.1.below hb1, HP.out.2.1.trans (hb1.mono (Nat.le_trans HB.out.1 HP.out.2.1.size)), (hb1.block nb (Array.getElem?_eq_some_iff.1 HP.out.2.2.1).1).trans HP.out.2.2.1, (hb1.block wb (Array.getElem?_eq_some_iff.1 HP.out.2.2.2).1).trans HP.out.2.2.2⟩; clear hb1; have e0 := cellL H1.out.2.2.2 0 (v := .bool true) rfl; have e1 := cellL H1.out.2.2.2 1 (v := .bool true) rfl)
          | (go_at_call 89; (with_reducible refine (HM.out _).mono ?_); rintro e w2 ⟨rfl, hb1⟩; have H2 : Hid (PrgAt B w2 pb xs (fun k => k = nb ∨ k = wb) ∧ Below B W w2 ∧ w2.heap[nb]? = some (ndO ⟨leaf, word, off, mask, op, k, t, f⟩) ∧ w2.heap[wb]? = some (.cells #[.bool true, .bool true] 99)) := Lib.hid ⟨H1.out.1.below hb1, H1.out.2.1.trans (hb1.mono (Nat.le_trans HB.out.1 H1.out.2.1.size)), (hb1.block nb (Array.getElem?_eq_some_iff.1 H1.out.2.2.1).1).trans H1.out.2.2.1, (hb1.block wb (Array.getElem?_eq_some_iff.1 H1.out.2.2.2).1).trans H1.out.2.2.2⟩; clear hb1 e0 e1))
        rename_i K8 hK8
        refine wp_region_held_drew (S := fun W' => W'.heap[nb]? = some (ndO ⟨leaf, word, off, mask, op, k, t, f⟩)) (by kernel_rfl) H2.out.2.2.1 (fun hHeld => ?_)
        have H3 : Hid (PrgAt B w2.drew pb xs (fun k => k = nb ∨ k = wb) ∧ Below B W w2.drew ∧ w2.drew.heap[nb]? = some (ndO ⟨leaf, word, off, mask, op, k, t, f⟩) ∧ w2.drew.heap[wb]? = some (.cells #[.bool true, .bool true] 99)) := Lib.hid ⟨H2.out.1.below (below_drawn (Below.refl _ _) 1), H2.out.2.1.drew, H2.out.2.2.1, H2.out.2.2.2⟩
        generalize w2.drew = Y at H3 hHeld ⊢
        clear H1 HP HO H2
        refine wpAnyH_take (i := 0) (v := ?_) rfl (by kernel_rfl) (by kernel_rfl) (by kernel_rfl) (fun _ _ _ h => h) (Or.inl ⟨by rfl, ?_⟩) (by assumption) ?_
        rotate_left
        · intro wS hSw
          (have d4 := cellL hSw 4 (v := .int .i64 op) rfl; have d5 := cellL hSw 5 (v := .int .u32 (k : Int)) rfl)
          go_simp
          all_goals with_reducible rfl
        (try simp only [List.getElem_toArray, List.getElem_cons_zero, List.getElem_cons_succ, Act.put, List.setIfInBounds_toArray, List.set_cons_zero, List.set_cons_succ])
        refine wpAnyH_take (i := 1) (v := ?_) rfl (by kernel_rfl) (by kernel_rfl) (by kernel_rfl) (fun _ _ _ h => h) (Or.inl ⟨by rfl, ?_⟩) (by assumption) ?_
        rotate_left
        · intro wS hSw
          (have d4 := cellL hSw 4 (v := .int .i64 op) rfl; have d5 := cellL hSw 5 (v := .int .u32 (k : Int)) rfl)
          go_simp
          all_goals with_reducible rfl
        (try simp only [List.getElem_toArray, List.getElem_cons_zero, List.getElem_cons_succ, Act.put, List.setIfInBounds_toArray, List.set_cons_zero, List.set_cons_succ])
        refine wpAnyH_take (i := 2) (v := ?_) rfl (by kernel_rfl) (by kernel_rfl) (by kernel_rfl) (fun _ _ _ h => h) (Or.inl ⟨by rfl, ?_⟩) (by assumption) ?_
        rotate_left
        · intro wS hSw
          (have d4 := cellL hSw 4 (v := .int .i64 op) rfl; have d5 := cellL hSw 5 (v := .int .u32 (k : Int)) rfl)
          go_simp
          all_goals with_reducible rfl
        (try simp only [List.getElem_toArray, List.getElem_cons_zero, List.getElem_cons_succ, Act.put, List.setIfInBounds_toArray, List.set_cons_zero, List.set_cons_succ])
        refine wpAnyH_take (i := 4) (v := ?_) rfl (by kernel_rfl) (by kernel_rfl) (by kernel_rfl) (fun _ _ _ h => h) (Or.inl ⟨by rfl, ?_⟩) (by assumption) ?_
        rotate_left
        · intro wS hSw
          (have d4 := cellL hSw 4 (v := .int .i64 op) rfl; have d5 := cellL hSw 5 (v := .int .u32 (k : Int)) rfl)
          go_simp
          all_goals with_reducible rfl
        (try simp only [List.getElem_toArray, List.getElem_cons_zero, List.getElem_cons_succ, Act.put, List.setIfInBounds_toArray, List.set_cons_zero, List.set_cons_succ])
        refine wpAnyH_take (i := 5) (v := ?_) rfl (by kernel_rfl) (by kernel_rfl) (by kernel_rfl) (fun _ _ _ h => h) (Or.inl ⟨by rfl, ?_⟩) (by assumption) ?_
        rotate_left
        · intro wS hSw
          (have d4 := cellL hSw 4 (v := .int .i64 op) rfl; have d5 := cellL hSw 5 (v := .int .u32 (k : Int)) rfl)
          go_simp
          all_goals with_reducible rfl
        (try simp only [List.getElem_toArray, List.getElem_cons_zero, List.getElem_cons_succ, Act.put, List.setIfInBounds_toArray, List.set_cons_zero, List.set_cons_succ])
        refine wpAnyH_take (i := 6) (v := ?_) rfl (by kernel_rfl) (by kernel_rfl) (by kernel_rfl) (fun _ _ _ h => h) (Or.inl ⟨by rfl, ?_⟩) (by assumption) ?_
        rotate_left
        · intro wS hSw
          (have d4 := cellL hSw 4 (v := .int .i64 op) rfl; have d5 := cellL hSw 5 (v := .int .u32 (k : Int)) rfl)
          go_simp
          all_goals with_reducible rfl
        (try simp only [List.getElem_toArray, List.getElem_cons_zero, List.getElem_cons_succ, Act.put, List.setIfInBounds_toArray, List.set_cons_zero, List.set_cons_succ])
        refine wpAnyH_take (i := 7) (v := ?_) rfl (by kernel_rfl) (by kernel_rfl) (by kernel_rfl) (fun _ _ _ h => h) (Or.inl ⟨by rfl, ?_⟩) (by assumption) ?_
        rotate_left
        · intro wS hSw
          (have d4 := cellL hSw 4 (v := .int .i64 op) rfl; have d5 := cellL hSw 5 (v := .int .u32 (k : Int)) rfl)
          go_simp
          all_goals with_reducible rfl
        (try simp only [List.getElem_toArray, List.getElem_cons_zero, List.getElem_cons_succ, Act.put, List.setIfInBounds_toArray, List.set_cons_zero, List.set_cons_succ])
        refine wpAnyH_take (i := 8) (v := ?_) rfl (by kernel_rfl) (by kernel_rfl) (by kernel_rfl) (fun _ _ _ h => h) (Or.inl ⟨by rfl, ?_⟩) (by assumption) ?_
        rotate_left
        · intro wS hSw
          (have d4 := cellL hSw 4 (v := .int .i64 op) rfl; have d5 := cellL hSw 5 (v := .int .u32 (k : Int)) rfl)
          go_simp
          all_goals with_reducible rfl
        (try simp only [List.getElem_toArray, List.getElem_cons_zero, List.getElem_cons_succ, Act.put, List.setIfInBounds_toArray, List.set_cons_zero, List.set_cons_succ])
        refine wpAnyH_take (i := 9) (v := ?_) rfl (by kernel_rfl) (by kernel_rfl) (by kernel_rfl) (fun _ _ _ h => h) (Or.inl ⟨by rfl, ?_⟩) (by assumption) ?_
        rotate_left
        · intro wS hSw
          (have d4 := cellL hSw 4 (v := .int .i64 op) rfl; have d5 := cellL hSw 5 (v := .int .u32 (k : Int)) rfl)
          go_simp
          all_goals with_reducible rfl
        (try simp only [List.getElem_toArray, List.getElem_cons_zero, List.getElem_cons_succ, Act.put, List.setIfInBounds_toArray, List.set_cons_zero, List.set_cons_succ])
        refine held_one (i := 3) (by kernel_rfl) rfl (fun K hK => ?_)
        go_simp
        go_at_call 90
        refine (HC.out _).mono ?_
        rintro e w9 ⟨rfl, rfl⟩
        refine hK.out _ _ H3.out.2.2.1 (fun hH2 => ?_)
        clear hK K hHeld
        (try simp only [Act.put, List.setIfInBounds_toArray, List.set_cons_zero, List.set_cons_succ, List.getElem_toArray, List.getElem_cons_zero, List.getElem_cons_succ])
        refine wpAnyH_take (i := 10) (v := ?_) rfl (by kernel_rfl) (by kernel_rfl) (by kernel_rfl) (fun _ _ _ h => h) (Or.inl ⟨by rfl, ?_⟩) (by assumption) ?_
        rotate_left
        · intro wS hSw
          (skip)
          go_simp
          all_goals with_reducible rfl
        (try simp only [List.getElem_toArray, List.getElem_cons_zero, List.getElem_cons_succ, Act.put, List.setIfInBounds_toArray, List.set_cons_zero, List.set_cons_succ])
        refine held_one (i := 11) (by kernel_rfl) rfl (fun K hK => ?_)
        go_simp
        go_at_call 29
        refine (p_lay H3.out.1 (Nat.le_trans HB.out.1 H3.out.2.1.size) (by omega) (cop, u8N (0), u8N (1), k)).mono ?_
        rintro e w4 ⟨rfl, hp4, hb4, hk4⟩
        have H4 : Hid (PrgAt B w4 pb (xs ++ [jumpN nd lg i]) (fun k => k = nb ∨ k = wb) ∧ Below B W w4 ∧ w4.heap[nb]? = some (ndO ⟨leaf, word, off, mask, op, k, t, f⟩) ∧ w4.heap[wb]? = some (.cells #[.bool true, .bool true] 99)) := Lib.hid ⟨by rw [HJ.out.1]; exact hp4, H3.out.2.1.trans hb4, (hk4 nb (.inl rfl)).trans H3.out.2.2.1, (hk4 wb (.inr rfl)).trans H3.out.2.2.2⟩
        refine hK.out _ _ H4.out.2.2.1 (fun hH3 => ?_)
        clear hK K hH2 hH3 hp4 hb4 hk4 H3
        refine wpAnyH_done (by kernel_rfl) ?_ _
        refine hK8 _ _ ?_
        clear hK8 K8
        have e0 := cellL H4.out.2.2.2 0 (v := .bool true) rfl
        have e1 := cellL H4.out.2.2.2 1 (v := .bool true) rfl
        go_wp2_with (first
          | (go_at_call 29; (with_reducible refine (p_lay H8.out.1 (Nat.le_trans HB.out.1 H8.out.2.1.size) (by simp only [List.length_append, List.length_cons, List.length_nil]; omega) (5, 0, 0, u32N (oF - 2))).mono ?_); rintro e w9 ⟨rfl, hp9, hb9, hk9⟩; have H9 : Hid (PrgAt B w9 pb (xs ++ [jumpN nd lg i] ++ [(5, 0, 0, u32N (oT - 1))] ++ [(5, 0, 0, u32N (oF - 2))]) (fun k => k = nb ∨ k = wb) ∧ Below B W w9 ∧ w9.heap[wb]? = some (.cells #[.bool true, .bool true] 99)) := Lib.hid ⟨hp9, H8.out.2.1.trans hb9, (hk9 wb (.inr rfl)).trans H8.out.2.2⟩; clear hp9 hb9 hk9)
          | (go_at_call 91; (with_reducible refine (HL.out (oF - 2) _).mono ?_); rintro e w8 ⟨rfl, hb8⟩; have H8 : Hid (PrgAt B w8 pb (xs ++ [jumpN nd lg i] ++ [(5, 0, 0, u32N (oT - 1))]) (fun k => k = nb ∨ k = wb) ∧ Below B W w8 ∧ w8.heap[wb]? = some (.cells #[.bool true, .bool true] 99)) := Lib.hid ⟨H7.out.1.below hb8, H7.out.2.1.trans (hb8.mono (Nat.le_trans HB.out.1 H7.out.2.1.size)), (hb8.block wb (Array.getElem?_eq_some_iff.1 H7.out.2.2).1).trans H7.out.2.2⟩; clear hb8)
          | (go_at_call 89; (with_reducible refine (HM.out _).mono ?_); rintro e w7 ⟨rfl, hb7⟩; have H7 : Hid (PrgAt B w7 pb (xs ++ [jumpN nd lg i] ++ [(5, 0, 0, u32N (oT - 1))]) (fun k => k = nb ∨ k = wb) ∧ Below B W w7 ∧ w7.heap[wb]? = some (.cells #[.bool true, .bool true] 99)) := Lib.hid ⟨H6.out.1.below hb7, H6.out.2.1.trans (hb7.mono (Nat.le_trans HB.out.1 H6.out.2.1.size)), (hb7.block wb (Array.getElem?_eq_some_iff.1 H6.out.2.2).1).trans H6.out.2.2⟩; clear hb7 e0 e1)
          | (go_at_call 29; (with_reducible refine (p_lay H5.out.1 (Nat.le_trans HB.out.1 H5.out.2.1.size) (by simp only [List.length_append, List.length_cons, List.length_nil]; omega) (5, 0, 0, u32N (oT - 1))).mono ?_); rintro e w6 ⟨rfl, hp6, hb6, hk6⟩; have H6 : Hid (PrgAt B w6 pb (xs ++ [jumpN nd lg i] ++ [(5, 0, 0, u32N (oT - 1))]) (fun k => k = nb ∨ k = wb) ∧ Below B W w6 ∧ w6.heap[wb]? = some (.cells #[.bool true, .bool true] 99)) := Lib.hid ⟨hp6, H5.out.2.1.trans hb6, (hk6 wb (.inr rfl)).trans H5.out.2.2⟩; clear hp6 hb6 hk6; have e0 := cellL H6.out.2.2 0 (v := .bool true) rfl; have e1 := cellL H6.out.2.2 1 (v := .bool true) rfl)
          | (go_at_call 91; (with_reducible refine (HL.out (oT - 1) _).mono ?_); rintro e w5 ⟨rfl, hb5⟩; have H5 : Hid (PrgAt B w5 pb (xs ++ [jumpN nd lg i]) (fun k => k = nb ∨ k = wb) ∧ Below B W w5 ∧ w5.heap[wb]? = some (.cells #[.bool true, .bool true] 99)) := Lib.hid ⟨H4.out.1.below hb5, H4.out.2.1.trans (hb5.mono (Nat.le_trans HB.out.1 H4.out.2.1.size)), (hb5.block wb (Array.getElem?_eq_some_iff.1 H4.out.2.2.2).1).trans H4.out.2.2.2⟩; clear hb5 e0 e1))
        go_end0
        refine ⟨rfl, ?_, H9.out.2.1⟩
        show PrgAt B _ pb (xs ++ jumpN nd lg i :: (wayT nd lg i ++ wayF nd lg i)) _
        rw [HJ.out.2.1, HJ.out.2.2]
        have h9 := H9.out.1
        simp only [List.append_assoc, List.cons_append, List.nil_append, List.append_nil] at h9 ⊢
        exact h9.apart (Below.refl _ _) _ (fun k hk => hk.elim)
      | false =>
        have HP := Lib.hid (And.intro hp (And.intro hb (And.intro hnb hwb)))
        have HO := Lib.hid (p_over hl hn hi rfl hways)
        have HB := Lib.hid (And.intro hB hlg)
        clear hl hp hb hnb hwb hB
        have hen : ∀ args w, (callFunc 29 args).run Try.prog w = .ok (.enter 29 args) w := Go.Proofs.enters_of Try.func29 (by kernel_rfl) rfl
        have hbo := over_in (nd := nd) (lg := lg) hn hi hways
        have HJ : Hid (jumpN nd lg i = (codeN (nd i).op, u8N (0), u8N (overF nd lg i), (nd i).k) ∧ wayT nd lg i = [(5, 0, 0, u32N (overT nd lg i - 1))] ∧ wayF nd lg i = []) := Lib.hid (by unfold jumpN wayT wayF; rw [hlg]; exact ⟨rfl, rfl, rfl⟩)
        generalize overT nd lg i = oT at HO hbo HJ
        generalize overF nd lg i = oF at HO hbo HJ
        have hx8 : IntKind.u8.wrap (0 : Int) = ((u8N (0) : Nat) : Int) := u8_wrap _
        have hy8 : IntKind.u8.wrap oF = ((u8N (oF) : Nat) : Int) := u8_wrap _
        have hwT : IntKind.i64.wrap (oT - 1) = oT - 1 := IntWalk.i64_in _ (by omega)
        have HC := Lib.hid (fun w => p_jumpCode (nd i).op w)
        clear hways hlg
        generalize nd i = x at HP HC HJ
        obtain ⟨leaf, word, off, mask, op, k, t, f⟩ := x
        generalize codeN op = cop at HC HJ
        have HL := Lib.hid (fun z w => p_longWay z w)
        go_upto_region 7 with (first
          | (go_at_call 53; (with_reducible refine HO.out.mono ?_); rintro e w1 ⟨rfl, hb1⟩; have H1 : Hid (PrgAt B w1 pb xs (fun k => k = nb ∨ k = wb) ∧ Below B W w1 ∧ w1.heap[nb]? = some (ndO ⟨leaf, word, off, mask, op, k, t, f⟩) ∧ w1.heap[wb]? = some (.cells #[.bool true, .bool false] 99)) := Lib.hid ⟨HP.out.1.below hb1, HP.out.2.1.trans (hb1.mono (Nat.le_trans HB.out.1 HP.out.2.1.size)), (hb1.block nb (Array.getElem?_eq_some_iff.1 HP.out.2.2.1).1).trans HP.out.2.2.1, (hb1.block wb (Array.getElem?_eq_some_iff.1 HP.out.2.2.2).1).trans HP.out.2.2.2⟩; clear hb1; have e0 := cellL H1.out.2.2.2 0 (v := .bool true) rfl; have e1 := cellL H1.out.2.2.2 1 (v := .bool false) rfl))
        rename_i K8 hK8
        clear e0 e1
        refine wp_region_held_drew (S := fun W' => W'.heap[nb]? = some (ndO ⟨leaf, word, off, mask, op, k, t, f⟩)) (by kernel_rfl) H1.out.2.2.1 (fun hHeld => ?_)
        have H3 : Hid (PrgAt B w1.drew pb xs (fun k => k = nb ∨ k = wb) ∧ Below B W w1.drew ∧ w1.drew.heap[nb]? = some (ndO ⟨leaf, word, off, mask, op, k, t, f⟩) ∧ w1.drew.heap[wb]? = some (.cells #[.bool true, .bool false] 99)) := Lib.hid ⟨H1.out.1.below (below_drawn (Below.refl _ _) 1), H1.out.2.1.drew, H1.out.2.2.1, H1.out.2.2.2⟩
        generalize w1.drew = Y at H3 hHeld ⊢
        clear H1 HP HO
        refine wpAnyH_take (i := 0) (v := ?_) rfl (by kernel_rfl) (by kernel_rfl) (by kernel_rfl) (fun _ _ _ h => h) (Or.inl ⟨by rfl, ?_⟩) (by assumption) ?_
        rotate_left
        · intro wS hSw
          (have d4 := cellL hSw 4 (v := .int .i64 op) rfl; have d5 := cellL hSw 5 (v := .int .u32 (k : Int)) rfl)
          go_simp
          all_goals with_reducible rfl
        (try simp only [List.getElem_toArray, List.getElem_cons_zero, List.getElem_cons_succ, Act.put, List.setIfInBounds_toArray, List.set_cons_zero, List.set_cons_succ])
        refine wpAnyH_take (i := 1) (v := ?_) rfl (by kernel_rfl) (by kernel_rfl) (by kernel_rfl) (fun _ _ _ h => h) (Or.inl ⟨by rfl, ?_⟩) (by assumption) ?_
        rotate_left
        · intro wS hSw
          (have d4 := cellL hSw 4 (v := .int .i64 op) rfl; have d5 := cellL hSw 5 (v := .int .u32 (k : Int)) rfl)
          go_simp
          all_goals with_reducible rfl
        (try simp only [List.getElem_toArray, List.getElem_cons_zero, List.getElem_cons_succ, Act.put, List.setIfInBounds_toArray, List.set_cons_zero, List.set_cons_succ])
        refine wpAnyH_take (i := 2) (v := ?_) rfl (by kernel_rfl) (by kernel_rfl) (by kernel_rfl) (fun _ _ _ h => h) (Or.inl ⟨by rfl, ?_⟩) (by assumption) ?_
        rotate_left
        · intro wS hSw
          (have d4 := cellL hSw 4 (v := .int .i64 op) rfl; have d5 := cellL hSw 5 (v := .int .u32 (k : Int)) rfl)
          go_simp
          all_goals with_reducible rfl
        (try simp only [List.getElem_toArray, List.getElem_cons_zero, List.getElem_cons_succ, Act.put, List.setIfInBounds_toArray, List.set_cons_zero, List.set_cons_succ])
        refine wpAnyH_take (i := 4) (v := ?_) rfl (by kernel_rfl) (by kernel_rfl) (by kernel_rfl) (fun _ _ _ h => h) (Or.inl ⟨by rfl, ?_⟩) (by assumption) ?_
        rotate_left
        · intro wS hSw
          (have d4 := cellL hSw 4 (v := .int .i64 op) rfl; have d5 := cellL hSw 5 (v := .int .u32 (k : Int)) rfl)
          go_simp
          all_goals with_reducible rfl
        (try simp only [List.getElem_toArray, List.getElem_cons_zero, List.getElem_cons_succ, Act.put, List.setIfInBounds_toArray, List.set_cons_zero, List.set_cons_succ])
        refine wpAnyH_take (i := 5) (v := ?_) rfl (by kernel_rfl) (by kernel_rfl) (by kernel_rfl) (fun _ _ _ h => h) (Or.inl ⟨by rfl, ?_⟩) (by assumption) ?_
        rotate_left
        · intro wS hSw
          (have d4 := cellL hSw 4 (v := .int .i64 op) rfl; have d5 := cellL hSw 5 (v := .int .u32 (k : Int)) rfl)
          go_simp
          all_goals with_reducible rfl
        (try simp only [List.getElem_toArray, List.getElem_cons_zero, List.getElem_cons_succ, Act.put, List.setIfInBounds_toArray, List.set_cons_zero, List.set_cons_succ])
        refine wpAnyH_take (i := 6) (v := ?_) rfl (by kernel_rfl) (by kernel_rfl) (by kernel_rfl) (fun _ _ _ h => h) (Or.inl ⟨by rfl, ?_⟩) (by assumption) ?_
        rotate_left
        · intro wS hSw
          (have d4 := cellL hSw 4 (v := .int .i64 op) rfl; have d5 := cellL hSw 5 (v := .int .u32 (k : Int)) rfl)
          go_simp
          all_goals with_reducible rfl
        (try simp only [List.getElem_toArray, List.getElem_cons_zero, List.getElem_cons_succ, Act.put, List.setIfInBounds_toArray, List.set_cons_zero, List.set_cons_succ])
        refine wpAnyH_take (i := 7) (v := ?_) rfl (by kernel_rfl) (by kernel_rfl) (by kernel_rfl) (fun _ _ _ h => h) (Or.inl ⟨by rfl, ?_⟩) (by assumption) ?_
        rotate_left
        · intro wS hSw
          (have d4 := cellL hSw 4 (v := .int .i64 op) rfl; have d5 := cellL hSw 5 (v := .int .u32 (k : Int)) rfl)
          go_simp
          all_goals with_reducible rfl
        (try simp only [List.getElem_toArray, List.getElem_cons_zero, List.getElem_cons_succ, Act.put, List.setIfInBounds_toArray, List.set_cons_zero, List.set_cons_succ])
        refine wpAnyH_take (i := 8) (v := ?_) rfl (by kernel_rfl) (by kernel_rfl) (by kernel_rfl) (fun _ _ _ h => h) (Or.inl ⟨by rfl, ?_⟩) (by assumption) ?_
        rotate_left
        · intro wS hSw
          (have d4 := cellL hSw 4 (v := .int .i64 op) rfl; have d5 := cellL hSw 5 (v := .int .u32 (k : Int)) rfl)
          go_simp
          all_goals with_reducible rfl
        (try simp only [List.getElem_toArray, List.getElem_cons_zero, List.getElem_cons_succ, Act.put, List.setIfInBounds_toArray, List.set_cons_zero, List.set_cons_succ])
        refine wpAnyH_take (i := 9) (v := ?_) rfl (by kernel_rfl) (by kernel_rfl) (by kernel_rfl) (fun _ _ _ h => h) (Or.inl ⟨by rfl, ?_⟩) (by assumption) ?_
        rotate_left
        · intro wS hSw
          (have d4 := cellL hSw 4 (v := .int .i64 op) rfl; have d5 := cellL hSw 5 (v := .int .u32 (k : Int)) rfl)
          go_simp
          all_goals with_reducible rfl
        (try simp only [List.getElem_toArray, List.getElem_cons_zero, List.getElem_cons_succ, Act.put, List.setIfInBounds_toArray, List.set_cons_zero, List.set_cons_succ])
        refine held_one (i := 3) (by kernel_rfl) rfl (fun K hK => ?_)
        go_simp
        go_at_call 90
        refine (HC.out _).mono ?_
        rintro e w9 ⟨rfl, rfl⟩
        refine hK.out _ _ H3.out.2.2.1 (fun hH2 => ?_)
        clear hK K hHeld
        (try simp only [Act.put, List.setIfInBounds_toArray, List.set_cons_zero, List.set_cons_succ, List.getElem_toArray, List.getElem_cons_zero, List.getElem_cons_succ])
        refine wpAnyH_take (i := 10) (v := ?_) rfl (by kernel_rfl) (by kernel_rfl) (by kernel_rfl) (fun _ _ _ h => h) (Or.inl ⟨by rfl, ?_⟩) (by assumption) ?_
        rotate_left
        · intro wS hSw
          (skip)
          go_simp
          all_goals with_reducible rfl
        (try simp only [List.getElem_toArray, List.getElem_cons_zero, List.getElem_cons_succ, Act.put, List.setIfInBounds_toArray, List.set_cons_zero, List.set_cons_succ])
        refine held_one (i := 11) (by kernel_rfl) rfl (fun K hK => ?_)
        go_simp
        go_at_call 29
        refine (p_lay H3.out.1 (Nat.le_trans HB.out.1 H3.out.2.1.size) (by omega) (cop, u8N (0), u8N (oF), k)).mono ?_
        rintro e w4 ⟨rfl, hp4, hb4, hk4⟩
        have H4 : Hid (PrgAt B w4 pb (xs ++ [jumpN nd lg i]) (fun k => k = nb ∨ k = wb) ∧ Below B W w4 ∧ w4.heap[nb]? = some (ndO ⟨leaf, word, off, mask, op, k, t, f⟩) ∧ w4.heap[wb]? = some (.cells #[.bool true, .bool false] 99)) := Lib.hid ⟨by rw [HJ.out.1]; exact hp4, H3.out.2.1.trans hb4, (hk4 nb (.inl rfl)).trans H3.out.2.2.1, (hk4 wb (.inr rfl)).trans H3.out.2.2.2⟩
        refine hK.out _ _ H4.out.2.2.1 (fun hH3 => ?_)
        clear hK K hH2 hH3 hp4 hb4 hk4 H3
        refine wpAnyH_done (by kernel_rfl) ?_ _
        refine hK8 _ _ ?_
        clear hK8 K8
        have e0 := cellL H4.out.2.2.2 0 (v := .bool true) rfl
        have e1 := cellL H4.out.2.2.2 1 (v := .bool false) rfl
        go_wp2_with (first
          | (go_at_call 29; (with_reducible refine (p_lay H5.out.1 (Nat.le_trans HB.out.1 H5.out.2.1.size) (by simp only [List.length_append, List.length_cons, List.length_nil]; omega) (5, 0, 0, u32N (oT - 1))).mono ?_); rintro e w6 ⟨rfl, hp6, hb6, hk6⟩; have H6 : Hid (PrgAt B w6 pb (xs ++ [jumpN nd lg i] ++ [(5, 0, 0, u32N (oT - 1))]) (fun k => k = nb ∨ k = wb) ∧ Below B W w6 ∧ w6.heap[wb]? = some (.cells #[.bool true, .bool false] 99)) := Lib.hid ⟨hp6, H5.out.2.1.trans hb6, (hk6 wb (.inr rfl)).trans H5.out.2.2⟩; clear hp6 hb6 hk6; have e0 := cellL H6.out.2.2 0 (v := .bool true) rfl; have e1 := cellL H6.out.2.2 1 (v := .bool false) rfl)
          | (go_at_call 91; (with_reducible refine (HL.out (oT - 1) _).mono ?_); rintro e w5 ⟨rfl, hb5⟩; have H5 : Hid (PrgAt B w5 pb (xs ++ [jumpN nd lg i]) (fun k => k = nb ∨ k = wb) ∧ Below B W w5 ∧ w5.heap[wb]? = some (.cells #[.bool true, .bool false] 99)) := Lib.hid ⟨H4.out.1.below hb5, H4.out.2.1.trans (hb5.mono (Nat.le_trans HB.out.1 H4.out.2.1.size)), (hb5.block wb (Array.getElem?_eq_some_iff.1 H4.out.2.2.2).1).trans H4.out.2.2.2⟩; clear hb5 e0 e1))
        go_end0
        refine ⟨rfl, ?_, H6.out.2.1⟩
        show PrgAt B _ pb (xs ++ jumpN nd lg i :: (wayT nd lg i ++ wayF nd lg i)) _
        rw [HJ.out.2.1, HJ.out.2.2]
        have h9 := H6.out.1
        simp only [List.append_assoc, List.cons_append, List.nil_append, List.append_nil] at h9 ⊢
        exact h9.apart (Below.refl _ _) _ (fun k hk => hk.elim)
    | false =>
      cases lf with
      | true =>
        have HP := Lib.hid (And.intro hp (And.intro hb (And.intro hnb hwb)))
        have HO := Lib.hid (p_over hl hn hi rfl hways)
        have HB := Lib.hid (And.intro hB hlg)
        clear hl hp hb hnb hwb hB
        have hen : ∀ args w, (callFunc 29 args).run Try.prog w = .ok (.enter 29 args) w := Go.Proofs.enters_of Try.func29 (by kernel_rfl) rfl
        have HM : Hid (∀ w, Calls Try.prog 89 #[.agg #[.bool false, .bool true]] w fun e w' => e = .returned (.int .i64 1) ∧ Below w.heap.size w w') := Lib.hid (fun w => p_many (false, true) w)
        have hbo := over_in (nd := nd) (lg := lg) hn hi hways
        have HJ : Hid (jumpN nd lg i = (codeN (nd i).op, u8N (overT nd lg i), u8N (0), (nd i).k) ∧ wayT nd lg i = [] ∧ wayF nd lg i = [(5, 0, 0, u32N (overF nd lg i - 1))]) := Lib.hid (by unfold jumpN wayT wayF; rw [hlg]; exact ⟨rfl, rfl, rfl⟩)
        generalize overT nd lg i = oT at HO hbo HJ
        generalize overF nd lg i = oF at HO hbo HJ
        have hx8 : IntKind.u8.wrap oT = ((u8N (oT) : Nat) : Int) := u8_wrap _
        have hy8 : IntKind.u8.wrap (0 : Int) = ((u8N (0) : Nat) : Int) := u8_wrap _
        have hwF : IntKind.i64.wrap (oF - 1) = oF - 1 := IntWalk.i64_in _ (by omega)
        have HC := Lib.hid (fun w => p_jumpCode (nd i).op w)
        clear hways hlg
        generalize nd i = x at HP HC HJ
        obtain ⟨leaf, word, off, mask, op, k, t, f⟩ := x
        generalize codeN op = cop at HC HJ
        have HL := Lib.hid (fun z w => p_longWay z w)
        go_upto_region 7 with (first
          | (go_at_call 53; (with_reducible refine HO.out.mono ?_); rintro e w1 ⟨rfl, hb1⟩; have H1 : Hid (PrgAt B w1 pb xs (fun k => k = nb ∨ k = wb) ∧ Below B W w1 ∧ w1.heap[nb]? = some (ndO ⟨leaf, word, off, mask, op, k, t, f⟩) ∧ w1.heap[wb]? = some (.cells #[.bool false, .bool true] 99)) := Lib.hid ⟨HP.out.1.below hb1, HP.out.2.1.trans (hb1.mono (Nat.le_trans HB.out.1 HP.out.2.1.size)), (hb1.block nb (Array.getElem?_eq_some_iff.1 HP.out.2.2.1).1).trans HP.out.2.2.1, (hb1.block wb (Array.getElem?_eq_some_iff.1 HP.out.2.2.2).1).trans HP.out.2.2.2⟩; clear hb1; have e0 := cellL H1.out.2.2.2 0 (v := .bool false) rfl; have e1 := cellL H1.out.2.2.2 1 (v := .bool true) rfl)
          | (go_at_call 89; (with_reducible refine (HM.out _).mono ?_); rintro e w2 ⟨rfl, hb1⟩; have H2 : Hid (PrgAt B w2 pb xs (fun k => k = nb ∨ k = wb) ∧ Below B W w2 ∧ w2.heap[nb]? = some (ndO ⟨leaf, word, off, mask, op, k, t, f⟩) ∧ w2.heap[wb]? = some (.cells #[.bool false, .bool true] 99)) := Lib.hid ⟨H1.out.1.below hb1, H1.out.2.1.trans (hb1.mono (Nat.le_trans HB.out.1 H1.out.2.1.size)), (hb1.block nb (Array.getElem?_eq_some_iff.1 H1.out.2.2.1).1).trans H1.out.2.2.1, (hb1.block wb (Array.getElem?_eq_some_iff.1 H1.out.2.2.2).1).trans H1.out.2.2.2⟩; clear hb1 e0 e1))
        rename_i K8 hK8
        refine wp_region_held_drew (S := fun W' => W'.heap[nb]? = some (ndO ⟨leaf, word, off, mask, op, k, t, f⟩)) (by kernel_rfl) H2.out.2.2.1 (fun hHeld => ?_)
        have H3 : Hid (PrgAt B w2.drew pb xs (fun k => k = nb ∨ k = wb) ∧ Below B W w2.drew ∧ w2.drew.heap[nb]? = some (ndO ⟨leaf, word, off, mask, op, k, t, f⟩) ∧ w2.drew.heap[wb]? = some (.cells #[.bool false, .bool true] 99)) := Lib.hid ⟨H2.out.1.below (below_drawn (Below.refl _ _) 1), H2.out.2.1.drew, H2.out.2.2.1, H2.out.2.2.2⟩
        generalize w2.drew = Y at H3 hHeld ⊢
        clear H1 HP HO H2
        refine wpAnyH_take (i := 0) (v := ?_) rfl (by kernel_rfl) (by kernel_rfl) (by kernel_rfl) (fun _ _ _ h => h) (Or.inl ⟨by rfl, ?_⟩) (by assumption) ?_
        rotate_left
        · intro wS hSw
          (have d4 := cellL hSw 4 (v := .int .i64 op) rfl; have d5 := cellL hSw 5 (v := .int .u32 (k : Int)) rfl)
          go_simp
          all_goals with_reducible rfl
        (try simp only [List.getElem_toArray, List.getElem_cons_zero, List.getElem_cons_succ, Act.put, List.setIfInBounds_toArray, List.set_cons_zero, List.set_cons_succ])
        refine wpAnyH_take (i := 1) (v := ?_) rfl (by kernel_rfl) (by kernel_rfl) (by kernel_rfl) (fun _ _ _ h => h) (Or.inl ⟨by rfl, ?_⟩) (by assumption) ?_
        rotate_left
        · intro wS hSw
          (have d4 := cellL hSw 4 (v := .int .i64 op) rfl; have d5 := cellL hSw 5 (v := .int .u32 (k : Int)) rfl)
          go_simp
          all_goals with_reducible rfl
        (try simp only [List.getElem_toArray, List.getElem_cons_zero, List.getElem_cons_succ, Act.put, List.setIfInBounds_toArray, List.set_cons_zero, List.set_cons_succ])
        refine wpAnyH_take (i := 2) (v := ?_) rfl (by kernel_rfl) (by kernel_rfl) (by kernel_rfl) (fun _ _ _ h => h) (Or.inl ⟨by rfl, ?_⟩) (by assumption) ?_
        rotate_left
        · intro wS hSw
          (have d4 := cellL hSw 4 (v := .int .i64 op) rfl; have d5 := cellL hSw 5 (v := .int .u32 (k : Int)) rfl)
          go_simp
          all_goals with_reducible rfl
        (try simp only [List.getElem_toArray, List.getElem_cons_zero, List.getElem_cons_succ, Act.put, List.setIfInBounds_toArray, List.set_cons_zero, List.set_cons_succ])
        refine wpAnyH_take (i := 4) (v := ?_) rfl (by kernel_rfl) (by kernel_rfl) (by kernel_rfl) (fun _ _ _ h => h) (Or.inl ⟨by rfl, ?_⟩) (by assumption) ?_
        rotate_left
        · intro wS hSw
          (have d4 := cellL hSw 4 (v := .int .i64 op) rfl; have d5 := cellL hSw 5 (v := .int .u32 (k : Int)) rfl)
          go_simp
          all_goals with_reducible rfl
        (try simp only [List.getElem_toArray, List.getElem_cons_zero, List.getElem_cons_succ, Act.put, List.setIfInBounds_toArray, List.set_cons_zero, List.set_cons_succ])
        refine wpAnyH_take (i := 5) (v := ?_) rfl (by kernel_rfl) (by kernel_rfl) (by kernel_rfl) (fun _ _ _ h => h) (Or.inl ⟨by rfl, ?_⟩) (by assumption) ?_
        rotate_left
        · intro wS hSw
          (have d4 := cellL hSw 4 (v := .int .i64 op) rfl; have d5 := cellL hSw 5 (v := .int .u32 (k : Int)) rfl)
          go_simp
          all_goals with_reducible rfl
        (try simp only [List.getElem_toArray, List.getElem_cons_zero, List.getElem_cons_succ, Act.put, List.setIfInBounds_toArray, List.set_cons_zero, List.set_cons_succ])
        refine wpAnyH_take (i := 6) (v := ?_) rfl (by kernel_rfl) (by kernel_rfl) (by kernel_rfl) (fun _ _ _ h => h) (Or.inl ⟨by rfl, ?_⟩) (by assumption) ?_
        rotate_left
        · intro wS hSw
          (have d4 := cellL hSw 4 (v := .int .i64 op) rfl; have d5 := cellL hSw 5 (v := .int .u32 (k : Int)) rfl)
          go_simp
          all_goals with_reducible rfl
        (try simp only [List.getElem_toArray, List.getElem_cons_zero, List.getElem_cons_succ, Act.put, List.setIfInBounds_toArray, List.set_cons_zero, List.set_cons_succ])
        refine wpAnyH_take (i := 7) (v := ?_) rfl (by kernel_rfl) (by kernel_rfl) (by kernel_rfl) (fun _ _ _ h => h) (Or.inl ⟨by rfl, ?_⟩) (by assumption) ?_
        rotate_left
        · intro wS hSw
          (have d4 := cellL hSw 4 (v := .int .i64 op) rfl; have d5 := cellL hSw 5 (v := .int .u32 (k : Int)) rfl)
          go_simp
          all_goals with_reducible rfl
        (try simp only [List.getElem_toArray, List.getElem_cons_zero, List.getElem_cons_succ, Act.put, List.setIfInBounds_toArray, List.set_cons_zero, List.set_cons_succ])
        refine wpAnyH_take (i := 8) (v := ?_) rfl (by kernel_rfl) (by kernel_rfl) (by kernel_rfl) (fun _ _ _ h => h) (Or.inl ⟨by rfl, ?_⟩) (by assumption) ?_
        rotate_left
        · intro wS hSw
          (have d4 := cellL hSw 4 (v := .int .i64 op) rfl; have d5 := cellL hSw 5 (v := .int .u32 (k : Int)) rfl)
          go_simp
          all_goals with_reducible rfl
        (try simp only [List.getElem_toArray, List.getElem_cons_zero, List.getElem_cons_succ, Act.put, List.setIfInBounds_toArray, List.set_cons_zero, List.set_cons_succ])
        refine wpAnyH_take (i := 9) (v := ?_) rfl (by kernel_rfl) (by kernel_rfl) (by kernel_rfl) (fun _ _ _ h => h) (Or.inl ⟨by rfl, ?_⟩) (by assumption) ?_
        rotate_left
        · intro wS hSw
          (have d4 := cellL hSw 4 (v := .int .i64 op) rfl; have d5 := cellL hSw 5 (v := .int .u32 (k : Int)) rfl)
          go_simp
          all_goals with_reducible rfl
        (try simp only [List.getElem_toArray, List.getElem_cons_zero, List.getElem_cons_succ, Act.put, List.setIfInBounds_toArray, List.set_cons_zero, List.set_cons_succ])
        refine held_one (i := 3) (by kernel_rfl) rfl (fun K hK => ?_)
        go_simp
        go_at_call 90
        refine (HC.out _).mono ?_
        rintro e w9 ⟨rfl, rfl⟩
        refine hK.out _ _ H3.out.2.2.1 (fun hH2 => ?_)
        clear hK K hHeld
        (try simp only [Act.put, List.setIfInBounds_toArray, List.set_cons_zero, List.set_cons_succ, List.getElem_toArray, List.getElem_cons_zero, List.getElem_cons_succ])
        refine wpAnyH_take (i := 10) (v := ?_) rfl (by kernel_rfl) (by kernel_rfl) (by kernel_rfl) (fun _ _ _ h => h) (Or.inl ⟨by rfl, ?_⟩) (by assumption) ?_
        rotate_left
        · intro wS hSw
          (skip)
          go_simp
          all_goals with_reducible rfl
        (try simp only [List.getElem_toArray, List.getElem_cons_zero, List.getElem_cons_succ, Act.put, List.setIfInBounds_toArray, List.set_cons_zero, List.set_cons_succ])
        refine held_one (i := 11) (by kernel_rfl) rfl (fun K hK => ?_)
        go_simp
        go_at_call 29
        refine (p_lay H3.out.1 (Nat.le_trans HB.out.1 H3.out.2.1.size) (by omega) (cop, u8N (oT), u8N (0), k)).mono ?_
        rintro e w4 ⟨rfl, hp4, hb4, hk4⟩
        have H4 : Hid (PrgAt B w4 pb (xs ++ [jumpN nd lg i]) (fun k => k = nb ∨ k = wb) ∧ Below B W w4 ∧ w4.heap[nb]? = some (ndO ⟨leaf, word, off, mask, op, k, t, f⟩) ∧ w4.heap[wb]? = some (.cells #[.bool false, .bool true] 99)) := Lib.hid ⟨by rw [HJ.out.1]; exact hp4, H3.out.2.1.trans hb4, (hk4 nb (.inl rfl)).trans H3.out.2.2.1, (hk4 wb (.inr rfl)).trans H3.out.2.2.2⟩
        refine hK.out _ _ H4.out.2.2.1 (fun hH3 => ?_)
        clear hK K hH2 hH3 hp4 hb4 hk4 H3
        refine wpAnyH_done (by kernel_rfl) ?_ _
        refine hK8 _ _ ?_
        clear hK8 K8
        have e0 := cellL H4.out.2.2.2 0 (v := .bool false) rfl
        have e1 := cellL H4.out.2.2.2 1 (v := .bool true) rfl
        go_wp2_with (first
          | (go_at_call 29; (with_reducible refine (p_lay H8.out.1 (Nat.le_trans HB.out.1 H8.out.2.1.size) (by simp only [List.length_append, List.length_cons, List.length_nil]; omega) (5, 0, 0, u32N (oF - 1))).mono ?_); rintro e w9 ⟨rfl, hp9, hb9, hk9⟩; have H9 : Hid (PrgAt B w9 pb (xs ++ [jumpN nd lg i] ++ [(5, 0, 0, u32N (oF - 1))]) (fun k => k = nb ∨ k = wb) ∧ Below B W w9 ∧ w9.heap[wb]? = some (.cells #[.bool false, .bool true] 99)) := Lib.hid ⟨hp9, H8.out.2.1.trans hb9, (hk9 wb (.inr rfl)).trans H8.out.2.2⟩; clear hp9 hb9 hk9)
          | (go_at_call 91; (with_reducible refine (HL.out (oF - 1) _).mono ?_); rintro e w8 ⟨rfl, hb8⟩; have H8 : Hid (PrgAt B w8 pb (xs ++ [jumpN nd lg i]) (fun k => k = nb ∨ k = wb) ∧ Below B W w8 ∧ w8.heap[wb]? = some (.cells #[.bool false, .bool true] 99)) := Lib.hid ⟨H7.out.1.below hb8, H7.out.2.1.trans (hb8.mono (Nat.le_trans HB.out.1 H7.out.2.1.size)), (hb8.block wb (Array.getElem?_eq_some_iff.1 H7.out.2.2).1).trans H7.out.2.2⟩; clear hb8)
          | (go_at_call 89; (with_reducible refine (HM.out _).mono ?_); rintro e w7 ⟨rfl, hb7⟩; have H7 : Hid (PrgAt B w7 pb (xs ++ [jumpN nd lg i]) (fun k => k = nb ∨ k = wb) ∧ Below B W w7 ∧ w7.heap[wb]? = some (.cells #[.bool false, .bool true] 99)) := Lib.hid ⟨H4.out.1.below hb7, H4.out.2.1.trans (hb7.mono (Nat.le_trans HB.out.1 H4.out.2.1.size)), (hb7.block wb (Array.getElem?_eq_some_iff.1 H4.out.2.2.2).1).trans H4.out.2.2.2⟩; clear hb7 e0 e1))
        go_end0
        refine ⟨rfl, ?_, H9.out.2.1⟩
        show PrgAt B _ pb (xs ++ jumpN nd lg i :: (wayT nd lg i ++ wayF nd lg i)) _
        rw [HJ.out.2.1, HJ.out.2.2]
        have h9 := H9.out.1
        simp only [List.append_assoc, List.cons_append, List.nil_append, List.append_nil] at h9 ⊢
        exact h9.apart (Below.refl _ _) _ (fun k hk => hk.elim)
      | false =>
        have HP := Lib.hid (And.intro hp (And.intro hb (And.intro hnb hwb)))
        have HO := Lib.hid (p_over hl hn hi rfl hways)
        have HB := Lib.hid (And.intro hB hlg)
        clear hl hp hb hnb hwb hB
        have hen : ∀ args w, (callFunc 29 args).run Try.prog w = .ok (.enter 29 args) w := Go.Proofs.enters_of Try.func29 (by kernel_rfl) rfl
        have hbo := over_in (nd := nd) (lg := lg) hn hi hways
        have HJ : Hid (jumpN nd lg i = (codeN (nd i).op, u8N (overT nd lg i), u8N (overF nd lg i), (nd i).k) ∧ wayT nd lg i = [] ∧ wayF nd lg i = []) := Lib.hid (by unfold jumpN wayT wayF; rw [hlg]; exact ⟨rfl, rfl, rfl⟩)
        generalize overT nd lg i = oT at HO hbo HJ
        generalize overF nd lg i = oF at HO hbo HJ
        have hx8 : IntKind.u8.wrap oT = ((u8N (oT) : Nat) : Int) := u8_wrap _
        have hy8 : IntKind.u8.wrap oF = ((u8N (oF) : Nat) : Int) := u8_wrap _
        have HC := Lib.hid (fun w => p_jumpCode (nd i).op w)
        clear hways hlg
        generalize nd i = x at HP HC HJ
        obtain ⟨leaf, word, off, mask, op, k, t, f⟩ := x
        generalize codeN op = cop at HC HJ
        have HL := Lib.hid (fun z w => p_longWay z w)
        go_upto_region 7 with (first
          | (go_at_call 53; (with_reducible refine HO.out.mono ?_); rintro e w1 ⟨rfl, hb1⟩; have H1 : Hid (PrgAt B w1 pb xs (fun k => k = nb ∨ k = wb) ∧ Below B W w1 ∧ w1.heap[nb]? = some (ndO ⟨leaf, word, off, mask, op, k, t, f⟩) ∧ w1.heap[wb]? = some (.cells #[.bool false, .bool false] 99)) := Lib.hid ⟨HP.out.1.below hb1, HP.out.2.1.trans (hb1.mono (Nat.le_trans HB.out.1 HP.out.2.1.size)), (hb1.block nb (Array.getElem?_eq_some_iff.1 HP.out.2.2.1).1).trans HP.out.2.2.1, (hb1.block wb (Array.getElem?_eq_some_iff.1 HP.out.2.2.2).1).trans HP.out.2.2.2⟩; clear hb1; have e0 := cellL H1.out.2.2.2 0 (v := .bool false) rfl; have e1 := cellL H1.out.2.2.2 1 (v := .bool false) rfl))
        rename_i K8 hK8
        clear e0 e1
        refine wp_region_held_drew (S := fun W' => W'.heap[nb]? = some (ndO ⟨leaf, word, off, mask, op, k, t, f⟩)) (by kernel_rfl) H1.out.2.2.1 (fun hHeld => ?_)
        have H3 : Hid (PrgAt B w1.drew pb xs (fun k => k = nb ∨ k = wb) ∧ Below B W w1.drew ∧ w1.drew.heap[nb]? = some (ndO ⟨leaf, word, off, mask, op, k, t, f⟩) ∧ w1.drew.heap[wb]? = some (.cells #[.bool false, .bool false] 99)) := Lib.hid ⟨H1.out.1.below (below_drawn (Below.refl _ _) 1), H1.out.2.1.drew, H1.out.2.2.1, H1.out.2.2.2⟩
        generalize w1.drew = Y at H3 hHeld ⊢
        clear H1 HP HO
        refine wpAnyH_take (i := 0) (v := ?_) rfl (by kernel_rfl) (by kernel_rfl) (by kernel_rfl) (fun _ _ _ h => h) (Or.inl ⟨by rfl, ?_⟩) (by assumption) ?_
        rotate_left
        · intro wS hSw
          (have d4 := cellL hSw 4 (v := .int .i64 op) rfl; have d5 := cellL hSw 5 (v := .int .u32 (k : Int)) rfl)
          go_simp
          all_goals with_reducible rfl
        (try simp only [List.getElem_toArray, List.getElem_cons_zero, List.getElem_cons_succ, Act.put, List.setIfInBounds_toArray, List.set_cons_zero, List.set_cons_succ])
        refine wpAnyH_take (i := 1) (v := ?_) rfl (by kernel_rfl) (by kernel_rfl) (by kernel_rfl) (fun _ _ _ h => h) (Or.inl ⟨by rfl, ?_⟩) (by assumption) ?_
        rotate_left
        · intro wS hSw
          (have d4 := cellL hSw 4 (v := .int .i64 op) rfl; have d5 := cellL hSw 5 (v := .int .u32 (k : Int)) rfl)
          go_simp
          all_goals with_reducible rfl
        (try simp only [List.getElem_toArray, List.getElem_cons_zero, List.getElem_cons_succ, Act.put, List.setIfInBounds_toArray, List.set_cons_zero, List.set_cons_succ])
        refine wpAnyH_take (i := 2) (v := ?_) rfl (by kernel_rfl) (by kernel_rfl) (by kernel_rfl) (fun _ _ _ h => h) (Or.inl ⟨by rfl, ?_⟩) (by assumption) ?_
        rotate_left
        · intro wS hSw
          (have d4 := cellL hSw 4 (v := .int .i64 op) rfl; have d5 := cellL hSw 5 (v := .int .u32 (k : Int)) rfl)
          go_simp
          all_goals with_reducible rfl
        (try simp only [List.getElem_toArray, List.getElem_cons_zero, List.getElem_cons_succ, Act.put, List.setIfInBounds_toArray, List.set_cons_zero, List.set_cons_succ])
        refine wpAnyH_take (i := 4) (v := ?_) rfl (by kernel_rfl) (by kernel_rfl) (by kernel_rfl) (fun _ _ _ h => h) (Or.inl ⟨by rfl, ?_⟩) (by assumption) ?_
        rotate_left
        · intro wS hSw
          (have d4 := cellL hSw 4 (v := .int .i64 op) rfl; have d5 := cellL hSw 5 (v := .int .u32 (k : Int)) rfl)
          go_simp
          all_goals with_reducible rfl
        (try simp only [List.getElem_toArray, List.getElem_cons_zero, List.getElem_cons_succ, Act.put, List.setIfInBounds_toArray, List.set_cons_zero, List.set_cons_succ])
        refine wpAnyH_take (i := 5) (v := ?_) rfl (by kernel_rfl) (by kernel_rfl) (by kernel_rfl) (fun _ _ _ h => h) (Or.inl ⟨by rfl, ?_⟩) (by assumption) ?_
        rotate_left
        · intro wS hSw
          (have d4 := cellL hSw 4 (v := .int .i64 op) rfl; have d5 := cellL hSw 5 (v := .int .u32 (k : Int)) rfl)
          go_simp
          all_goals with_reducible rfl
        (try simp only [List.getElem_toArray, List.getElem_cons_zero, List.getElem_cons_succ, Act.put, List.setIfInBounds_toArray, List.set_cons_zero, List.set_cons_succ])
        refine wpAnyH_take (i := 6) (v := ?_) rfl (by kernel_rfl) (by kernel_rfl) (by kernel_rfl) (fun _ _ _ h => h) (Or.inl ⟨by rfl, ?_⟩) (by assumption) ?_
        rotate_left
        · intro wS hSw
          (have d4 := cellL hSw 4 (v := .int .i64 op) rfl; have d5 := cellL hSw 5 (v := .int .u32 (k : Int)) rfl)
          go_simp
          all_goals with_reducible rfl
        (try simp only [List.getElem_toArray, List.getElem_cons_zero, List.getElem_cons_succ, Act.put, List.setIfInBounds_toArray, List.set_cons_zero, List.set_cons_succ])
        refine wpAnyH_take (i := 7) (v := ?_) rfl (by kernel_rfl) (by kernel_rfl) (by kernel_rfl) (fun _ _ _ h => h) (Or.inl ⟨by rfl, ?_⟩) (by assumption) ?_
        rotate_left
        · intro wS hSw
          (have d4 := cellL hSw 4 (v := .int .i64 op) rfl; have d5 := cellL hSw 5 (v := .int .u32 (k : Int)) rfl)
          go_simp
          all_goals with_reducible rfl
        (try simp only [List.getElem_toArray, List.getElem_cons_zero, List.getElem_cons_succ, Act.put, List.setIfInBounds_toArray, List.set_cons_zero, List.set_cons_succ])
        refine wpAnyH_take (i := 8) (v := ?_) rfl (by kernel_rfl) (by kernel_rfl) (by kernel_rfl) (fun _ _ _ h => h) (Or.inl ⟨by rfl, ?_⟩) (by assumption) ?_
        rotate_left
        · intro wS hSw
          (have d4 := cellL hSw 4 (v := .int .i64 op) rfl; have d5 := cellL hSw 5 (v := .int .u32 (k : Int)) rfl)
          go_simp
          all_goals with_reducible rfl
        (try simp only [List.getElem_toArray, List.getElem_cons_zero, List.getElem_cons_succ, Act.put, List.setIfInBounds_toArray, List.set_cons_zero, List.set_cons_succ])
        refine wpAnyH_take (i := 9) (v := ?_) rfl (by kernel_rfl) (by kernel_rfl) (by kernel_rfl) (fun _ _ _ h => h) (Or.inl ⟨by rfl, ?_⟩) (by assumption) ?_
        rotate_left
        · intro wS hSw
          (have d4 := cellL hSw 4 (v := .int .i64 op) rfl; have d5 := cellL hSw 5 (v := .int .u32 (k : Int)) rfl)
          go_simp
          all_goals with_reducible rfl
        (try simp only [List.getElem_toArray, List.getElem_cons_zero, List.getElem_cons_succ, Act.put, List.setIfInBounds_toArray, List.set_cons_zero, List.set_cons_succ])
        refine held_one (i := 3) (by kernel_rfl) rfl (fun K hK => ?_)
        go_simp
        go_at_call 90
        refine (HC.out _).mono ?_
        rintro e w9 ⟨rfl, rfl⟩
        refine hK.out _ _ H3.out.2.2.1 (fun hH2 => ?_)
        clear hK K hHeld
        (try simp only [Act.put, List.setIfInBounds_toArray, List.set_cons_zero, List.set_cons_succ, List.getElem_toArray, List.getElem_cons_zero, List.getElem_cons_succ])
        refine wpAnyH_take (i := 10) (v := ?_) rfl (by kernel_rfl) (by kernel_rfl) (by kernel_rfl) (fun _ _ _ h => h) (Or.inl ⟨by rfl, ?_⟩) (by assumption) ?_
        rotate_left
        · intro wS hSw
          (skip)
          go_simp
          all_goals with_reducible rfl
        (try simp only [List.getElem_toArray, List.getElem_cons_zero, List.getElem_cons_succ, Act.put, List.setIfInBounds_toArray, List.set_cons_zero, List.set_cons_succ])
        refine held_one (i := 11) (by kernel_rfl) rfl (fun K hK => ?_)
        go_simp
        go_at_call 29
        refine (p_lay H3.out.1 (Nat.le_trans HB.out.1 H3.out.2.1.size) (by omega) (cop, u8N (oT), u8N (oF), k)).mono ?_
        rintro e w4 ⟨rfl, hp4, hb4, hk4⟩
        have H4 : Hid (PrgAt B w4 pb (xs ++ [jumpN nd lg i]) (fun k => k = nb ∨ k = wb) ∧ Below B W w4 ∧ w4.heap[nb]? = some (ndO ⟨leaf, word, off, mask, op, k, t, f⟩) ∧ w4.heap[wb]? = some (.cells #[.bool false, .bool false] 99)) := Lib.hid ⟨by rw [HJ.out.1]; exact hp4, H3.out.2.1.trans hb4, (hk4 nb (.inl rfl)).trans H3.out.2.2.1, (hk4 wb (.inr rfl)).trans H3.out.2.2.2⟩
        refine hK.out _ _ H4.out.2.2.1 (fun hH3 => ?_)
        clear hK K hH2 hH3 hp4 hb4 hk4 H3
        refine wpAnyH_done (by kernel_rfl) ?_ _
        refine hK8 _ _ ?_
        clear hK8 K8
        have e0 := cellL H4.out.2.2.2 0 (v := .bool false) rfl
        have e1 := cellL H4.out.2.2.2 1 (v := .bool false) rfl
        go_wp2
        go_end0
        refine ⟨rfl, ?_, H4.out.2.1⟩
        show PrgAt B _ pb (xs ++ jumpN nd lg i :: (wayT nd lg i ++ wayF nd lg i)) _
        rw [HJ.out.2.1, HJ.out.2.2]
        have h9 := H4.out.1
        simp only [List.append_assoc, List.cons_append, List.nil_append, List.append_nil] at h9 ⊢
        exact h9.apart (Below.refl _ _) _ (fun k hk => hk.elim)
  refine wp_region_held_drew (S := fun W' => LayAt B0 W' b (some ⟨ab, ao, none⟩) n cap nd lb fb lg (firstN nd lg)) (by kernel_rfl) (HL.out.1.below (below_drawn (Below.refl _ _) 1)) (fun hHeld => ?_)
  have H1 : Hid (LayAt B0 W.drew b (some ⟨ab, ao, none⟩) n cap nd lb fb lg (firstN nd lg) ∧ PrgAt B W.drew pb xs S ∧ Below B W W.drew) := Lib.hid ⟨HL.out.1.below (below_drawn (Below.refl _ _) 1), HL.out.2.below (below_drawn (Below.refl _ _) 1), (below_drawn (Below.refl _ _) 1)⟩
  generalize W.drew = Y at H1 hHeld ⊢
  refine wpAnyH_take (i := 0) (v := ?_) rfl (by kernel_rfl) (by kernel_rfl) (by kernel_rfl) (fun _ _ _ h => h) (Or.inl ⟨by rfl, ?_⟩) (by assumption) ?_
  rotate_left
  · intro wS hSw
    (obtain ⟨m0, m1, m2⟩ := lay_box hSw; obtain ⟨ab', ao', hA, hl, c0, c1, c2, c3, c4, c5, c6, c7⟩ := nd_at hSw.nds hi; injection hA with hA; injection hA with hA1 hA2; subst hA1; subst hA2; obtain ⟨g0, g1⟩ := lay_long hSw hi)
    go_simp
    all_goals with_reducible rfl
  (try simp only [List.getElem_toArray, List.getElem_cons_zero, List.getElem_cons_succ, Act.put, List.setIfInBounds_toArray, List.set_cons_zero, List.set_cons_succ])
  refine wpAnyH_take (i := 1) (v := ?_) rfl (by kernel_rfl) (by kernel_rfl) (by kernel_rfl) (fun _ _ _ h => h) (Or.inl ⟨by rfl, ?_⟩) (by assumption) ?_
  rotate_left
  · intro wS hSw
    (obtain ⟨m0, m1, m2⟩ := lay_box hSw; obtain ⟨ab', ao', hA, hl, c0, c1, c2, c3, c4, c5, c6, c7⟩ := nd_at hSw.nds hi; injection hA with hA; injection hA with hA1 hA2; subst hA1; subst hA2; obtain ⟨g0, g1⟩ := lay_long hSw hi)
    go_simp
    all_goals with_reducible rfl
  (try simp only [List.getElem_toArray, List.getElem_cons_zero, List.getElem_cons_succ, Act.put, List.setIfInBounds_toArray, List.set_cons_zero, List.set_cons_succ])
  refine wpAnyH_take (i := 2) (v := ?_) rfl (by kernel_rfl) (by kernel_rfl) (by kernel_rfl) (fun _ _ _ h => h) (Or.inl ⟨by rfl, ?_⟩) (by assumption) ?_
  rotate_left
  · intro wS hSw
    (obtain ⟨m0, m1, m2⟩ := lay_box hSw; obtain ⟨ab', ao', hA, hl, c0, c1, c2, c3, c4, c5, c6, c7⟩ := nd_at hSw.nds hi; injection hA with hA; injection hA with hA1 hA2; subst hA1; subst hA2; obtain ⟨g0, g1⟩ := lay_long hSw hi)
    go_simp
    all_goals with_reducible rfl
  (try simp only [List.getElem_toArray, List.getElem_cons_zero, List.getElem_cons_succ, Act.put, List.setIfInBounds_toArray, List.set_cons_zero, List.set_cons_succ])
  refine wpAnyH_take (i := 3) (v := ?_) rfl (by kernel_rfl) (by kernel_rfl) (by kernel_rfl) (fun _ _ _ h => h) (Or.inl ⟨by rfl, ?_⟩) (by assumption) ?_
  rotate_left
  · intro wS hSw
    (obtain ⟨m0, m1, m2⟩ := lay_box hSw; obtain ⟨ab', ao', hA, hl, c0, c1, c2, c3, c4, c5, c6, c7⟩ := nd_at hSw.nds hi; injection hA with hA; injection hA with hA1 hA2; subst hA1; subst hA2; obtain ⟨g0, g1⟩ := lay_long hSw hi)
    go_simp
    all_goals with_reducible rfl
  (try simp only [List.getElem_toArray, List.getElem_cons_zero, List.getElem_cons_succ, Act.put, List.setIfInBounds_toArray, List.set_cons_zero, List.set_cons_succ])
  refine wpAnyH_take (i := 4) (v := ?_) rfl (by kernel_rfl) (by kernel_rfl) (by kernel_rfl) (fun _ _ _ h => h) (Or.inl ⟨by rfl, ?_⟩) (by assumption) ?_
  rotate_left
  · intro wS hSw
    (obtain ⟨m0, m1, m2⟩ := lay_box hSw; obtain ⟨ab', ao', hA, hl, c0, c1, c2, c3, c4, c5, c6, c7⟩ := nd_at hSw.nds hi; injection hA with hA; injection hA with hA1 hA2; subst hA1; subst hA2; obtain ⟨g0, g1⟩ := lay_long hSw hi)
    go_simp
    all_goals with_reducible rfl
  (try simp only [List.getElem_toArray, List.getElem_cons_zero, List.getElem_cons_succ, Act.put, List.setIfInBounds_toArray, List.set_cons_zero, List.set_cons_succ])
  refine wpAnyH_take (i := 5) (v := ?_) rfl (by kernel_rfl) (by kernel_rfl) (by kernel_rfl) (fun _ _ _ h => h) (Or.inl ⟨by rfl, ?_⟩) (by assumption) ?_
  rotate_left
  · intro wS hSw
    (obtain ⟨m0, m1, m2⟩ := lay_box hSw; obtain ⟨ab', ao', hA, hl, c0, c1, c2, c3, c4, c5, c6, c7⟩ := nd_at hSw.nds hi; injection hA with hA; injection hA with hA1 hA2; subst hA1; subst hA2; obtain ⟨g0, g1⟩ := lay_long hSw hi)
    go_simp
    all_goals with_reducible rfl
  (try simp only [List.getElem_toArray, List.getElem_cons_zero, List.getElem_cons_succ, Act.put, List.setIfInBounds_toArray, List.set_cons_zero, List.set_cons_succ])
  refine wpAnyH_take (i := 6) (v := ?_) rfl (by kernel_rfl) (by kernel_rfl) (by kernel_rfl) (fun _ _ _ h => h) (Or.inl ⟨by rfl, ?_⟩) (by assumption) ?_
  rotate_left
  · intro wS hSw
    (obtain ⟨m0, m1, m2⟩ := lay_box hSw; obtain ⟨ab', ao', hA, hl, c0, c1, c2, c3, c4, c5, c6, c7⟩ := nd_at hSw.nds hi; injection hA with hA; injection hA with hA1 hA2; subst hA1; subst hA2; obtain ⟨g0, g1⟩ := lay_long hSw hi)
    go_simp
    all_goals with_reducible rfl
  (try simp only [List.getElem_toArray, List.getElem_cons_zero, List.getElem_cons_succ, Act.put, List.setIfInBounds_toArray, List.set_cons_zero, List.set_cons_succ])
  refine wpAnyH_take (i := 7) (v := ?_) rfl (by kernel_rfl) (by kernel_rfl) (by kernel_rfl) (fun _ _ _ h => h) (Or.inl ⟨by rfl, ?_⟩) (by assumption) ?_
  rotate_left
  · intro wS hSw
    (obtain ⟨m0, m1, m2⟩ := lay_box hSw; obtain ⟨ab', ao', hA, hl, c0, c1, c2, c3, c4, c5, c6, c7⟩ := nd_at hSw.nds hi; injection hA with hA; injection hA with hA1 hA2; subst hA1; subst hA2; obtain ⟨g0, g1⟩ := lay_long hSw hi)
    go_simp
    all_goals with_reducible rfl
  (try simp only [List.getElem_toArray, List.getElem_cons_zero, List.getElem_cons_succ, Act.put, List.setIfInBounds_toArray, List.set_cons_zero, List.set_cons_succ])
  refine wpAnyH_take (i := 8) (v := ?_) rfl (by kernel_rfl) (by kernel_rfl) (by kernel_rfl) (fun _ _ _ h => h) (Or.inl ⟨by rfl, ?_⟩) (by assumption) ?_
  rotate_left
  · intro wS hSw
    (obtain ⟨m0, m1, m2⟩ := lay_box hSw; obtain ⟨ab', ao', hA, hl, c0, c1, c2, c3, c4, c5, c6, c7⟩ := nd_at hSw.nds hi; injection hA with hA; injection hA with hA1 hA2; subst hA1; subst hA2; obtain ⟨g0, g1⟩ := lay_long hSw hi)
    go_simp
    all_goals with_reducible rfl
  (try simp only [List.getElem_toArray, List.getElem_cons_zero, List.getElem_cons_succ, Act.put, List.setIfInBounds_toArray, List.set_cons_zero, List.set_cons_succ])
  refine wpAnyH_take (i := 9) (v := ?_) rfl (by kernel_rfl) (by kernel_rfl) (by kernel_rfl) (fun _ _ _ h => h) (Or.inl ⟨by rfl, ?_⟩) (by assumption) ?_
  rotate_left
  · intro wS hSw
    (obtain ⟨m0, m1, m2⟩ := lay_box hSw; obtain ⟨ab', ao', hA, hl, c0, c1, c2, c3, c4, c5, c6, c7⟩ := nd_at hSw.nds hi; injection hA with hA; injection hA with hA1 hA2; subst hA1; subst hA2; obtain ⟨g0, g1⟩ := lay_long hSw hi)
    go_simp
    all_goals with_reducible rfl
  (try simp only [List.getElem_toArray, List.getElem_cons_zero, List.getElem_cons_succ, Act.put, List.setIfInBounds_toArray, List.set_cons_zero, List.set_cons_succ])
  refine wpAnyH_take (i := 10) (v := ?_) rfl (by kernel_rfl) (by kernel_rfl) (by kernel_rfl) (fun _ _ _ h => h) (Or.inl ⟨by rfl, ?_⟩) (by assumption) ?_
  rotate_left
  · intro wS hSw
    (obtain ⟨m0, m1, m2⟩ := lay_box hSw; obtain ⟨ab', ao', hA, hl, c0, c1, c2, c3, c4, c5, c6, c7⟩ := nd_at hSw.nds hi; injection hA with hA; injection hA with hA1 hA2; subst hA1; subst hA2; obtain ⟨g0, g1⟩ := lay_long hSw hi)
    go_simp
    all_goals with_reducible rfl
  (try simp only [List.getElem_toArray, List.getElem_cons_zero, List.getElem_cons_succ, Act.put, List.setIfInBounds_toArray, List.set_cons_zero, List.set_cons_succ])
  refine wpAnyH_take (i := 11) (v := ?_) rfl (by kernel_rfl) (by kernel_rfl) (by kernel_rfl) (fun _ _ _ h => h) (Or.inl ⟨by rfl, ?_⟩) (by assumption) ?_
  rotate_left
  · intro wS hSw
    (obtain ⟨m0, m1, m2⟩ := lay_box hSw; obtain ⟨ab', ao', hA, hl, c0, c1, c2, c3, c4, c5, c6, c7⟩ := nd_at hSw.nds hi; injection hA with hA; injection hA with hA1 hA2; subst hA1; subst hA2; obtain ⟨g0, g1⟩ := lay_long hSw hi)
    go_simp
    all_goals with_reducible rfl
  (try simp only [List.getElem_toArray, List.getElem_cons_zero, List.getElem_cons_succ, Act.put, List.setIfInBounds_toArray, List.set_cons_zero, List.set_cons_succ])
  refine wpAnyH_take (i := 12) (v := ?_) rfl (by kernel_rfl) (by kernel_rfl) (by kernel_rfl) (fun _ _ _ h => h) (Or.inl ⟨by rfl, ?_⟩) (by assumption) ?_
  rotate_left
  · intro wS hSw
    (obtain ⟨m0, m1, m2⟩ := lay_box hSw; obtain ⟨ab', ao', hA, hl, c0, c1, c2, c3, c4, c5, c6, c7⟩ := nd_at hSw.nds hi; injection hA with hA; injection hA with hA1 hA2; subst hA1; subst hA2; obtain ⟨g0, g1⟩ := lay_long hSw hi)
    go_simp
    all_goals with_reducible rfl
  (try simp only [List.getElem_toArray, List.getElem_cons_zero, List.getElem_cons_succ, Act.put, List.setIfInBounds_toArray, List.set_cons_zero, List.set_cons_succ])
  refine wpAnyH_take (i := 13) (v := ?_) rfl (by kernel_rfl) (by kernel_rfl) (by kernel_rfl) (fun _ _ _ h => h) (Or.inl ⟨by rfl, ?_⟩) (by assumption) ?_
  rotate_left
  · intro wS hSw
    (obtain ⟨m0, m1, m2⟩ := lay_box hSw; obtain ⟨ab', ao', hA, hl, c0, c1, c2, c3, c4, c5, c6, c7⟩ := nd_at hSw.nds hi; injection hA with hA; injection hA with hA1 hA2; subst hA1; subst hA2; obtain ⟨g0, g1⟩ := lay_long hSw hi)
    go_simp
    all_goals with_reducible rfl
  (try simp only [List.getElem_toArray, List.getElem_cons_zero, List.getElem_cons_succ, Act.put, List.setIfInBounds_toArray, List.set_cons_zero, List.set_cons_succ])
  refine wpAnyH_ready (rs := [14, 15]) (by kernel_rfl) (by simp) (AllReadyH.cons rfl (fun K hK => ?_) (AllReadyH.cons rfl (fun K hK => ?_) AllReadyH.nil))
  · go_simp
    refine hK.out _ _ (H1.out.1.below (lboxL Y _)) (fun hH2 => ?_)
    clear hK K hHeld
    (try simp only [Act.put, List.setIfInBounds_toArray, List.set_cons_zero, List.set_cons_succ, List.getElem_toArray, List.getElem_cons_zero, List.getElem_cons_succ])
    refine held_one (i := 15) (by kernel_rfl) rfl (fun K hK => ?_)
    go_simp
    refine hK.out _ _ (H1.out.1.below ((lboxL Y _).trans ((lboxL _ _).mono (by simp)))) (fun hH3 => ?_)
    clear hK K hH2
    (try simp only [Act.put, List.setIfInBounds_toArray, List.set_cons_zero, List.set_cons_succ, List.getElem_toArray, List.getElem_cons_zero, List.getElem_cons_succ])
    refine held_one (i := 16) (by kernel_rfl) rfl (fun K hK => ?_)
    go_simp
    refine hK.out _ _ (H1.out.1.below ((lboxL Y _).trans ((lboxL _ _).mono (by simp)))) (fun hH4 => ?_)
    clear hK K hH3
    (try simp only [Act.put, List.setIfInBounds_toArray, List.set_cons_zero, List.set_cons_succ, List.getElem_toArray, List.getElem_cons_zero, List.getElem_cons_succ])
    refine held_one (i := 17) (by kernel_rfl) rfl (fun K hK => ?_)
    go_simp
    refine hK.out _ _ (H1.out.1.below ((lboxL Y _).trans ((lboxL _ _).mono (by simp)))) (fun hH5 => ?_)
    clear hK K hH4
    refine wpAnyH_done (by kernel_rfl) ?_ _
    have hbZ : Below Y.heap.size Y ((Y.alloc (ndO (nd i))).alloc (.cells #[.bool (lg i).1, .bool (lg i).2] 99)) := (lboxL Y _).trans ((lboxL _ _).mono (by simp))
    have hnb : ((Y.alloc (ndO (nd i))).alloc (.cells #[.bool (lg i).1, .bool (lg i).2] 99)).heap[Y.heap.size]? = some (ndO (nd i)) := (kept_allocL (World.alloc_heap_new Y (ndO (nd i))) (.cells #[.bool (lg i).1, .bool (lg i).2] 99))
    have hwb : ((Y.alloc (ndO (nd i))).alloc (.cells #[.bool (lg i).1, .bool (lg i).2] 99)).heap[Y.heap.size + 1]? = some (.cells #[.bool (lg i).1, .bool (lg i).2] 99) := (by have q := World.alloc_heap_new (Y.alloc (ndO (nd i))) (.cells #[.bool (lg i).1, .bool (lg i).2] 99); simpa using q)
    have hap : PrgAt B ((Y.alloc (ndO (nd i))).alloc (.cells #[.bool (lg i).1, .bool (lg i).2] 99)) pb xs (fun k => k = Y.heap.size ∨ k = Y.heap.size + 1) := H1.out.2.1.apart hbZ _ (fun k hk => .inr (by simp; rcases hk with rfl | rfl <;> omega))
    exact rest _ _ _ _ _ _ _ _ _ _ _ _ _ _ _ _ _ (H1.out.1.below hbZ) hap (H1.out.2.2.trans (hbZ.mono (Nat.le_trans hB H1.out.2.2.size))) hnb hwb
  · go_simp
    refine hK.out _ _ (H1.out.1.below (lboxL Y _)) (fun hH2 => ?_)
    clear hK K hHeld
    (try simp only [Act.put, List.setIfInBounds_toArray, List.set_cons_zero, List.set_cons_succ, List.getElem_toArray, List.getElem_cons_zero, List.getElem_cons_succ])
    refine held_one (i := 14) (by kernel_rfl) rfl (fun K hK => ?_)
    go_simp
    refine hK.out _ _ (H1.out.1.below ((lboxL Y _).trans ((lboxL _ _).mono (by simp)))) (fun hH3 => ?_)
    clear hK K hH2
    (try simp only [Act.put, List.setIfInBounds_toArray, List.set_cons_zero, List.set_cons_succ, List.getElem_toArray, List.getElem_cons_zero, List.getElem_cons_succ])
    refine held_one (i := 16) (by kernel_rfl) rfl (fun K hK => ?_)
    go_simp
    refine hK.out _ _ (H1.out.1.below ((lboxL Y _).trans ((lboxL _ _).mono (by simp)))) (fun hH4 => ?_)
    clear hK K hH3
    (try simp only [Act.put, List.setIfInBounds_toArray, List.set_cons_zero, List.set_cons_succ, List.getElem_toArray, List.getElem_cons_zero, List.getElem_cons_succ])
    refine held_one (i := 17) (by kernel_rfl) rfl (fun K hK => ?_)
    go_simp
    refine hK.out _ _ (H1.out.1.below ((lboxL Y _).trans ((lboxL _ _).mono (by simp)))) (fun hH5 => ?_)
    clear hK K hH4
    refine wpAnyH_done (by kernel_rfl) ?_ _
    have hbZ : Below Y.heap.size Y ((Y.alloc (.cells #[.bool (lg i).1, .bool (lg i).2] 99)).alloc (ndO (nd i))) := (lboxL Y _).trans ((lboxL _ _).mono (by simp))
    have hnb : ((Y.alloc (.cells #[.bool (lg i).1, .bool (lg i).2] 99)).alloc (ndO (nd i))).heap[Y.heap.size + 1]? = some (ndO (nd i)) := (by have q := World.alloc_heap_new (Y.alloc (.cells #[.bool (lg i).1, .bool (lg i).2] 99)) (ndO (nd i)); simpa using q)
    have hwb : ((Y.alloc (.cells #[.bool (lg i).1, .bool (lg i).2] 99)).alloc (ndO (nd i))).heap[Y.heap.size]? = some (.cells #[.bool (lg i).1, .bool (lg i).2] 99) := (kept_allocL (World.alloc_heap_new Y (.cells #[.bool (lg i).1, .bool (lg i).2] 99)) (ndO (nd i)))
    have hap : PrgAt B ((Y.alloc (.cells #[.bool (lg i).1, .bool (lg i).2] 99)).alloc (ndO (nd i))) pb xs (fun k => k = Y.heap.size + 1 ∨ k = Y.heap.size) := H1.out.2.1.apart hbZ _ (fun k hk => .inr (by simp; rcases hk with rfl | rfl <;> omega))
    exact rest _ _ _ _ _ _ _ _ _ _ _ _ _ _ _ _ _ (H1.out.1.below hbZ) hap (H1.out.2.2.trans (hbZ.mono (Nat.le_trans hB H1.out.2.2.size))) hnb hwb
end Go.Proofs.Ytgpjiflgocgolaa
