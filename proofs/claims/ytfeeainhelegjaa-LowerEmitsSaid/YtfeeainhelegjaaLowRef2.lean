/-
  The document's sizes, places and jumps of nodes: contracts. Conditions: those that each names.
-/
import Derived.Test.YtfeeainhelegjaaLowPrg
namespace Go.Proofs.Ytfeeainhelegjaa
open Go Go.RowKit
set_option linter.unusedSimpArgs false
set_option linter.unusedVariables false

theorem r_size (x : Nd) (y : Bool × Bool) (w : World) : Calls Try.prog 22 #[ndV x, .agg #[.bool y.1, .bool y.2]] w fun e w' => e = .returned (.int .i64 (sizeN x y : Int)) ∧ Below w.heap.size w w' := by
  have HB := Lib.hid (fun o o' => (lboxL w o).trans ((lboxL (w.alloc o) o').mono (by simp)))
  obtain ⟨leaf, word, off, mask, op, k, t, f⟩ := x
  obtain ⟨a, b⟩ := y
  cases leaf with
  | true =>
    go_enter Try.func22, Try.ntmps22
    go_wp2
    go_ret
    exact ⟨rfl, HB.out _ _⟩
  | false =>
    by_cases hk : mask = 4294967295
    · have hkb : ((mask : Int) != 4294967295) = false := by rw [hk]; rfl
      have HK : Hid (∀ y, sizeN ⟨false, word, off, mask, op, k, t, f⟩ y = 2 + manyN y) := Lib.hid (fun y => by unfold sizeN; rw [if_neg (by show ¬ false = true; decide), if_pos hk])
      clear hk
      cases a <;> cases b <;>
      (go_enter Try.func22, Try.ntmps22
       go_wp2
       go_ret
       exact ⟨by rw [HK.out]; rfl, HB.out _ _⟩)
    · have hkb : ((mask : Int) != 4294967295) = true := by
        have : ((mask : Int) == 4294967295) = false := beq_false_of_ne (by omega)
        rw [bne, this]; rfl
      have HK : Hid (∀ y, sizeN ⟨false, word, off, mask, op, k, t, f⟩ y = 3 + manyN y) := Lib.hid (fun y => by unfold sizeN; rw [if_neg (by show ¬ false = true; decide), if_neg hk])
      clear hk
      cases a <;> cases b <;>
      (go_enter Try.func22, Try.ntmps22
       go_wp2
       go_ret
       exact ⟨by rw [HK.out]; rfl, HB.out _ _⟩)
/-- Where a test's jump stands behind the node's first instruction. -/
def jumpAt (x : Nd) : Nat := if x.mask = 4294967295 then 1 else 2
theorem r_jump (x : Nd) (z : Nat) (hz : z ≤ 1000000) (w : World) : Calls Try.prog 23 #[ndV x, .int .i64 (z : Int)] w fun e w' => e = .returned (.int .i64 ((z + jumpAt x : Nat) : Int)) ∧ Below w.heap.size w w' := by
  have HB := Lib.hid (fun o => lboxL w o)
  have h1 : IntKind.i64.wrap ((z : Int) + 1) = ((z + 1 : Nat) : Int) := by rw [IntWalk.i64_in _ (by omega)]; omega
  have h2 : IntKind.i64.wrap ((z : Int) + 2) = ((z + 2 : Nat) : Int) := by rw [IntWalk.i64_in _ (by omega)]; omega
  obtain ⟨leaf, word, off, mask, op, k, t, f⟩ := x
  by_cases hk : mask = 4294967295
  · have hkb : ((mask : Int) != 4294967295) = false := by rw [hk]; rfl
    have HK : Hid (jumpAt ⟨leaf, word, off, mask, op, k, t, f⟩ = 1) := Lib.hid (if_pos hk)
    clear hk
    go_enter Try.func23, Try.ntmps23
    go_wp2
    go_ret
    exact ⟨by rw [HK.out] <;> rfl, HB.out _⟩
  · have hkb : ((mask : Int) != 4294967295) = true := by
      have : ((mask : Int) == 4294967295) = false := beq_false_of_ne (by omega)
      rw [bne, this]; rfl
    have HK : Hid (jumpAt ⟨leaf, word, off, mask, op, k, t, f⟩ = 2) := Lib.hid (if_neg hk)
    clear hk
    go_enter Try.func23, Try.ntmps23
    go_wp2
    go_ret
    exact ⟨by rw [HK.out] <;> rfl, HB.out _⟩
theorem r_code (o : Int) (w : World) : Calls Try.prog 18 #[.int .i64 o] w fun e w' => e = .returned (.int .u16 (codeN o : Int)) ∧ w' = w := by
  unfold codeN
  by_cases h1 : o = 1
  · subst h1
    go_enter Try.func18, Try.ntmps18
    go_wp2
    go_ret
    exact ⟨rfl, rfl⟩
  have h1b : (o == 1) = false := beq_false_of_ne h1
  by_cases h2 : o = 2
  · subst h2
    go_enter Try.func18, Try.ntmps18
    go_wp2
    go_ret
    exact ⟨rfl, rfl⟩
  have h2b : (o == 2) = false := beq_false_of_ne h2
  by_cases h3 : o = 3
  · subst h3
    go_enter Try.func18, Try.ntmps18
    go_wp2
    go_ret
    exact ⟨rfl, rfl⟩
  have h3b : (o == 3) = false := beq_false_of_ne h3
  rw [if_neg h1, if_neg h2, if_neg h3]
  clear h1 h2 h3
  go_enter Try.func18, Try.ntmps18
  go_wp2
  go_ret
  exact ⟨rfl, rfl⟩
/-- Cells of a row of one's own. -/
theorem own_cells {w : World} {B : Nat} {e : TypeId} {sz : Nat} {v : Value} {n : Nat} {xs : List Value} (h : w.ownsRow B e sz v n xs) (hn : 0 < n) : ∃ g c, v = .slice (some ⟨g, 0, none⟩) n c ∧ B ≤ g ∧ g < w.heap.size ∧ n ≤ c ∧ ∀ i u, xs[i]? = some u → w.cell? ⟨g, i, none⟩ = some u := by
  obtain ⟨h1, h⟩ := h
  rcases h with ⟨rfl, rfl⟩ | ⟨g, c, cur, rfl, hB, hg, hc, hm, hs, ht⟩
  · omega
  · refine ⟨g, c, rfl, hB, (Array.getElem?_eq_some_iff.1 hg).1, hc, fun i u hu => ?_⟩
    rw [← ht] at hu
    rw [List.getElem?_take] at hu
    split at hu
    · unfold World.cell?; rw [hg]
      simpa using hu
    · cases hu
theorem own_one (W : World) (e : TypeId) (v : Value) : (W.alloc (.cells #[v] e)).ownsRow W.heap.size e 1 (.slice (some ⟨W.heap.size, 0, none⟩) 1 1) 1 [v] :=
  ⟨rfl, .inr ⟨W.heap.size, 1, #[v], rfl, Nat.le_refl _, World.alloc_heap_new W _, Nat.le_refl _, by unfold maxLen; omega, rfl, rfl⟩⟩
/-- Which ways are long, as the document keeps it. -/
def FarAt (W : World) (fb n : Nat) (lg : Ways) : Prop := ∃ G, W.rowIs fb 51 (n * 2) G ∧ ∀ i, i < n → G (i * 2) = .bool (lg i).1 ∧ G (i * 2 + 1) = .bool (lg i).2
theorem FarAt.below {W W' : World} {fb n : Nat} {lg : Ways} (h : FarAt W fb n lg) (hb : Below W.heap.size W W') : FarAt W' fb n lg := by
  obtain ⟨G, hG, g2⟩ := h
  exact ⟨G, row_below hG hb, g2⟩
theorem far_cells {W : World} {fb n : Nat} {lg : Ways} (h : FarAt W fb n lg) {i : Nat} (hi : i < n) : W.cell? ⟨fb, i * 2, none⟩ = some (.bool (lg i).1) ∧ W.cell? ⟨fb, i * 2 + 1, none⟩ = some (.bool (lg i).2) := by
  obtain ⟨G, hG, g2⟩ := h
  exact ⟨by rw [World.rowIs.cell hG (i := i * 2) (by omega), (g2 i hi).1], by rw [World.rowIs.cell hG (i := i * 2 + 1) (by omega), (g2 i hi).2]⟩
def firL (nd : Nat → Nd) (lg : Ways) (k : Nat) : List Value := (List.range k).map (fun i => Value.int .i64 (firstN nd lg i : Int))
theorem firL_succ (nd : Nat → Nd) (lg : Ways) (k : Nat) : firL nd lg (k + 1) = firL nd lg k ++ [.int .i64 (firstN nd lg k : Int)] := by
  unfold firL; rw [List.range_succ, List.map_append]; rfl
theorem firL_get (nd : Nat → Nd) (lg : Ways) {k i : Nat} (h : i < k) : (firL nd lg k)[i]? = some (.int .i64 (firstN nd lg i : Int)) := by
  unfold firL; rw [List.getElem?_map, List.getElem?_range h]; rfl
set_option maxHeartbeats 4000000 in
set_option maxRecDepth 100000 in
theorem r_places {W : World} {A : Option Addr} {n cap : Nat} {nd : Nat → Nd} {fb : Nat} {lg : Ways} (h : NdAt W A n nd) (hf : FarAt W fb n lg) (hn : n ≤ 4096) :
    Calls Try.prog 15 #[.slice A n cap, .slice (some ⟨fb, 0, none⟩) n n] W fun e w' => ∃ v, e = .returned v ∧ w'.ownsRow W.heap.size 3 1 v (n + 1) (firL nd lg (n + 1)) ∧ Below W.heap.size W w' := by
  have HN := Lib.hid (And.intro h hf)
  clear h hf
  have H0 := Lib.hid (And.intro (own_one W 3 (.int .i64 0)) (lboxL W (.cells #[.int .i64 0] 3)))
  go_enter Try.func15, Try.ntmps15
  go_wp2
  go_loopw [5, 6] (fun v i wr => ∃ k : Nat, k ≤ n ∧ i = .int .i64 (k : Int) ∧ wr.ownsRow W.heap.size 3 1 v (k + 1) (firL nd lg (k + 1)) ∧ Below W.heap.size W wr) (fun _ i _ => n - (intOf i).toNat)
  case atStart => exact ⟨0, by omega, rfl, H0.out.1, H0.out.2⟩
  case round =>
    obtain ⟨k, hk, rfl, ho, hb⟩ := hrel
    have HR := Lib.hid (And.intro ho hb)
    clear ho hb
    by_cases hlt : k < n
    · have hlt' : (k : Int) < (n : Int) := by omega
      have hlt1 : (k : Int) < (k : Int) + 1 := by omega
      have hw1 : IntKind.i64.wrap ((k : Int) + 1) = ((k + 1 : Nat) : Int) := by rw [IntWalk.i64_in _ (by omega)]; omega
      have hfl := first_le nd lg k
      have hsl := size_le (nd k) (lg k)
      have hv : IntKind.i64.wrap ((firstN nd lg k : Int) + (sizeN (nd k) (lg k) : Int)) = ((firstN nd lg (k + 1) : Nat) : Int) := by rw [IntWalk.i64_in _ (by omega), firstN]; omega
      have HSZ := Lib.hid (fun V => r_size (nd k) (lg k) V)
      obtain ⟨g, c, rfl, hgB, hgl, hgc, hcell⟩ := own_cells HR.out.1 (by omega)
      have HC := Lib.hid (hcell k _ (firL_get nd lg (by omega)))
      clear hcell
      obtain ⟨ab, ao, rfl, hl, c0, c1, c2, c3, c4, c5, c6, c7⟩ := nd_at HN.out.1 hlt
      clear hl c0 c1 c2 c3 c4 c5 c6 c7
      go_upto_region 5 with fail
      refine wp_region_held_drew (S := fun W' => NdAt W' (some ⟨ab, ao, none⟩) n nd ∧ FarAt W' fb n lg) (by kernel_rfl) ⟨HN.out.1.below HR.out.2.drew, HN.out.2.below HR.out.2.drew⟩ (fun hHeld => ?_)
      have H1 : Hid (NdAt wr.drew (some ⟨ab, ao, none⟩) n nd ∧ FarAt wr.drew fb n lg ∧ wr.drew.cell? ⟨g, k, none⟩ = some (.int .i64 (firstN nd lg k : Int)) ∧ wr.drew.ownsRow W.heap.size 3 1 (.slice (some ⟨g, 0, none⟩) (k + 1) c) (k + 1) (firL nd lg (k + 1)) ∧ Below W.heap.size W wr.drew ∧ g < wr.drew.heap.size) := Lib.hid ⟨HN.out.1.below HR.out.2.drew, HN.out.2.below HR.out.2.drew, HC.out, HR.out.1.drew, HR.out.2.drew, hgl⟩
      generalize wr.drew = Y at H1 hHeld ⊢
      clear HR HC hgl
      refine wpAnyH_take (i := 0) (v := ?_) rfl (by kernel_rfl) (by kernel_rfl) (by kernel_rfl) (fun _ _ _ h => h) (Or.inl ⟨by rfl, ?_⟩) (by assumption) ?_
      rotate_left
      · intro wS hSw
        (obtain ⟨hS1, hS2⟩ := hSw; obtain ⟨ab', ao', hA, hl, c0, c1, c2, c3, c4, c5, c6, c7⟩ := nd_at hS1 hlt; injection hA with hA; injection hA with hA1 hA2; subst hA1; subst hA2; obtain ⟨g0, g1⟩ := far_cells hS2 hlt)
        go_simp
        all_goals with_reducible rfl
      (try simp only [List.getElem_toArray, List.getElem_cons_zero, List.getElem_cons_succ, Act.put, List.setIfInBounds_toArray, List.set_cons_zero, List.set_cons_succ])
      refine wpAnyH_take (i := 1) (v := ?_) rfl (by kernel_rfl) (by kernel_rfl) (by kernel_rfl) (fun _ _ _ h => h) (Or.inl ⟨by rfl, ?_⟩) (by assumption) ?_
      rotate_left
      · intro wS hSw
        (obtain ⟨hS1, hS2⟩ := hSw; obtain ⟨ab', ao', hA, hl, c0, c1, c2, c3, c4, c5, c6, c7⟩ := nd_at hS1 hlt; injection hA with hA; injection hA with hA1 hA2; subst hA1; subst hA2; obtain ⟨g0, g1⟩ := far_cells hS2 hlt)
        go_simp
        all_goals with_reducible rfl
      (try simp only [List.getElem_toArray, List.getElem_cons_zero, List.getElem_cons_succ, Act.put, List.setIfInBounds_toArray, List.set_cons_zero, List.set_cons_succ])
      refine wpAnyH_take (i := 2) (v := ?_) rfl (by kernel_rfl) (by kernel_rfl) (by kernel_rfl) (fun _ _ _ h => h) (Or.inl ⟨by rfl, ?_⟩) (by assumption) ?_
      rotate_left
      · intro wS hSw
        (obtain ⟨hS1, hS2⟩ := hSw; obtain ⟨ab', ao', hA, hl, c0, c1, c2, c3, c4, c5, c6, c7⟩ := nd_at hS1 hlt; injection hA with hA; injection hA with hA1 hA2; subst hA1; subst hA2; obtain ⟨g0, g1⟩ := far_cells hS2 hlt)
        go_simp
        all_goals with_reducible rfl
      (try simp only [List.getElem_toArray, List.getElem_cons_zero, List.getElem_cons_succ, Act.put, List.setIfInBounds_toArray, List.set_cons_zero, List.set_cons_succ])
      refine wpAnyH_take (i := 3) (v := ?_) rfl (by kernel_rfl) (by kernel_rfl) (by kernel_rfl) (fun _ _ _ h => h) (Or.inl ⟨by rfl, ?_⟩) (by assumption) ?_
      rotate_left
      · intro wS hSw
        (obtain ⟨hS1, hS2⟩ := hSw; obtain ⟨ab', ao', hA, hl, c0, c1, c2, c3, c4, c5, c6, c7⟩ := nd_at hS1 hlt; injection hA with hA; injection hA with hA1 hA2; subst hA1; subst hA2; obtain ⟨g0, g1⟩ := far_cells hS2 hlt)
        go_simp
        all_goals with_reducible rfl
      (try simp only [List.getElem_toArray, List.getElem_cons_zero, List.getElem_cons_succ, Act.put, List.setIfInBounds_toArray, List.set_cons_zero, List.set_cons_succ])
      refine wpAnyH_take (i := 5) (v := ?_) rfl (by kernel_rfl) (by kernel_rfl) (by kernel_rfl) (fun _ _ _ h => h) (Or.inl ⟨by rfl, ?_⟩) (by assumption) ?_
      rotate_left
      · intro wS hSw
        (obtain ⟨hS1, hS2⟩ := hSw; obtain ⟨ab', ao', hA, hl, c0, c1, c2, c3, c4, c5, c6, c7⟩ := nd_at hS1 hlt; injection hA with hA; injection hA with hA1 hA2; subst hA1; subst hA2; obtain ⟨g0, g1⟩ := far_cells hS2 hlt)
        go_simp
        all_goals with_reducible rfl
      (try simp only [List.getElem_toArray, List.getElem_cons_zero, List.getElem_cons_succ, Act.put, List.setIfInBounds_toArray, List.set_cons_zero, List.set_cons_succ])
      refine wpAnyH_take (i := 6) (v := ?_) rfl (by kernel_rfl) (by kernel_rfl) (by kernel_rfl) (fun _ _ _ h => h) (Or.inl ⟨by rfl, ?_⟩) (by assumption) ?_
      rotate_left
      · intro wS hSw
        (obtain ⟨hS1, hS2⟩ := hSw; obtain ⟨ab', ao', hA, hl, c0, c1, c2, c3, c4, c5, c6, c7⟩ := nd_at hS1 hlt; injection hA with hA; injection hA with hA1 hA2; subst hA1; subst hA2; obtain ⟨g0, g1⟩ := far_cells hS2 hlt)
        go_simp
        all_goals with_reducible rfl
      (try simp only [List.getElem_toArray, List.getElem_cons_zero, List.getElem_cons_succ, Act.put, List.setIfInBounds_toArray, List.set_cons_zero, List.set_cons_succ])
      refine wpAnyH_take (i := 7) (v := ?_) rfl (by kernel_rfl) (by kernel_rfl) (by kernel_rfl) (fun _ _ _ h => h) (Or.inl ⟨by rfl, ?_⟩) (by assumption) ?_
      rotate_left
      · intro wS hSw
        (obtain ⟨hS1, hS2⟩ := hSw; obtain ⟨ab', ao', hA, hl, c0, c1, c2, c3, c4, c5, c6, c7⟩ := nd_at hS1 hlt; injection hA with hA; injection hA with hA1 hA2; subst hA1; subst hA2; obtain ⟨g0, g1⟩ := far_cells hS2 hlt)
        go_simp
        all_goals with_reducible rfl
      (try simp only [List.getElem_toArray, List.getElem_cons_zero, List.getElem_cons_succ, Act.put, List.setIfInBounds_toArray, List.set_cons_zero, List.set_cons_succ])
      refine wpAnyH_take (i := 8) (v := ?_) rfl (by kernel_rfl) (by kernel_rfl) (by kernel_rfl) (fun _ _ _ h => h) (Or.inl ⟨by rfl, ?_⟩) (by assumption) ?_
      rotate_left
      · intro wS hSw
        (obtain ⟨hS1, hS2⟩ := hSw; obtain ⟨ab', ao', hA, hl, c0, c1, c2, c3, c4, c5, c6, c7⟩ := nd_at hS1 hlt; injection hA with hA; injection hA with hA1 hA2; subst hA1; subst hA2; obtain ⟨g0, g1⟩ := far_cells hS2 hlt)
        go_simp
        all_goals with_reducible rfl
      (try simp only [List.getElem_toArray, List.getElem_cons_zero, List.getElem_cons_succ, Act.put, List.setIfInBounds_toArray, List.set_cons_zero, List.set_cons_succ])
      refine wpAnyH_take (i := 9) (v := ?_) rfl (by kernel_rfl) (by kernel_rfl) (by kernel_rfl) (fun _ _ _ h => h) (Or.inl ⟨by rfl, ?_⟩) (by assumption) ?_
      rotate_left
      · intro wS hSw
        (obtain ⟨hS1, hS2⟩ := hSw; obtain ⟨ab', ao', hA, hl, c0, c1, c2, c3, c4, c5, c6, c7⟩ := nd_at hS1 hlt; injection hA with hA; injection hA with hA1 hA2; subst hA1; subst hA2; obtain ⟨g0, g1⟩ := far_cells hS2 hlt)
        go_simp
        all_goals with_reducible rfl
      (try simp only [List.getElem_toArray, List.getElem_cons_zero, List.getElem_cons_succ, Act.put, List.setIfInBounds_toArray, List.set_cons_zero, List.set_cons_succ])
      refine wpAnyH_take (i := 10) (v := ?_) rfl (by kernel_rfl) (by kernel_rfl) (by kernel_rfl) (fun _ _ _ h => h) (Or.inl ⟨by rfl, ?_⟩) (by assumption) ?_
      rotate_left
      · intro wS hSw
        (obtain ⟨hS1, hS2⟩ := hSw; obtain ⟨ab', ao', hA, hl, c0, c1, c2, c3, c4, c5, c6, c7⟩ := nd_at hS1 hlt; injection hA with hA; injection hA with hA1 hA2; subst hA1; subst hA2; obtain ⟨g0, g1⟩ := far_cells hS2 hlt)
        go_simp
        all_goals with_reducible rfl
      (try simp only [List.getElem_toArray, List.getElem_cons_zero, List.getElem_cons_succ, Act.put, List.setIfInBounds_toArray, List.set_cons_zero, List.set_cons_succ])
      refine wpAnyH_take (i := 11) (v := ?_) rfl (by kernel_rfl) (by kernel_rfl) (by kernel_rfl) (fun _ _ _ h => h) (Or.inl ⟨by rfl, ?_⟩) (by assumption) ?_
      rotate_left
      · intro wS hSw
        (obtain ⟨hS1, hS2⟩ := hSw; obtain ⟨ab', ao', hA, hl, c0, c1, c2, c3, c4, c5, c6, c7⟩ := nd_at hS1 hlt; injection hA with hA; injection hA with hA1 hA2; subst hA1; subst hA2; obtain ⟨g0, g1⟩ := far_cells hS2 hlt)
        go_simp
        all_goals with_reducible rfl
      (try simp only [List.getElem_toArray, List.getElem_cons_zero, List.getElem_cons_succ, Act.put, List.setIfInBounds_toArray, List.set_cons_zero, List.set_cons_succ])
      refine wpAnyH_take (i := 12) (v := ?_) rfl (by kernel_rfl) (by kernel_rfl) (by kernel_rfl) (fun _ _ _ h => h) (Or.inl ⟨by rfl, ?_⟩) (by assumption) ?_
      rotate_left
      · intro wS hSw
        (obtain ⟨hS1, hS2⟩ := hSw; obtain ⟨ab', ao', hA, hl, c0, c1, c2, c3, c4, c5, c6, c7⟩ := nd_at hS1 hlt; injection hA with hA; injection hA with hA1 hA2; subst hA1; subst hA2; obtain ⟨g0, g1⟩ := far_cells hS2 hlt)
        go_simp
        all_goals with_reducible rfl
      (try simp only [List.getElem_toArray, List.getElem_cons_zero, List.getElem_cons_succ, Act.put, List.setIfInBounds_toArray, List.set_cons_zero, List.set_cons_succ])
      refine wpAnyH_ready (rs := [4, 13]) (by kernel_rfl) (by simp) (AllReadyH.cons rfl (fun K hK => ?_) (AllReadyH.cons rfl (fun K hK => ?_) AllReadyH.nil))
      · have x0 := H1.out.2.2.1
        go_simp
        clear hHeld
        refine hK.out _ _ ⟨H1.out.1, H1.out.2.1⟩ (fun hHeld0 => ?_)
        clear hK K x0
        (try simp only [Act.put, List.setIfInBounds_toArray, List.set_cons_zero, List.set_cons_succ, List.getElem_toArray, List.getElem_cons_zero, List.getElem_cons_succ])
        refine held_one (i := 13) (by kernel_rfl) rfl (fun K hK => ?_)
        go_simp
        go_at_call 22
        refine (HSZ.out _).mono ?_
        rintro e w1 ⟨rfl, hb1⟩
        have H2 : Hid (NdAt w1 (some ⟨ab, ao, none⟩) n nd ∧ FarAt w1 fb n lg ∧ w1.cell? ⟨g, k, none⟩ = some (.int .i64 (firstN nd lg k : Int)) ∧ w1.ownsRow W.heap.size 3 1 (.slice (some ⟨g, 0, none⟩) (k + 1) c) (k + 1) (firL nd lg (k + 1)) ∧ Below W.heap.size W w1) := Lib.hid ⟨H1.out.1.below hb1, H1.out.2.1.below hb1, (hb1.cell (p := ⟨g, k, none⟩) H1.out.2.2.2.2.2).trans H1.out.2.2.1, own_below H1.out.2.2.2.1 hb1, H1.out.2.2.2.2.1.trans (hb1.mono H1.out.2.2.2.2.1.size)⟩
        refine hK.out _ _ ⟨H2.out.1, H2.out.2.1⟩ (fun hHeld => ?_)
        clear hK K hb1 H1 hHeld0
        (try simp only [Act.put, List.setIfInBounds_toArray, List.set_cons_zero, List.set_cons_succ, List.getElem_toArray, List.getElem_cons_zero, List.getElem_cons_succ])
        refine wpAnyH_take (i := 14) (v := ?_) rfl (by kernel_rfl) (by kernel_rfl) (by kernel_rfl) (fun _ _ _ h => h) (Or.inl ⟨by rfl, ?_⟩) (by assumption) ?_
        rotate_left
        · intro wS hSw
          (skip)
          go_simp
          all_goals with_reducible rfl
        (try simp only [List.getElem_toArray, List.getElem_cons_zero, List.getElem_cons_succ, Act.put, List.setIfInBounds_toArray, List.set_cons_zero, List.set_cons_succ])
        have H3 : Hid (NdAt (w1.alloc (.cells #[.int .i64 ((firstN nd lg (k + 1) : Nat) : Int)] 3)) (some ⟨ab, ao, none⟩) n nd ∧ FarAt (w1.alloc (.cells #[.int .i64 ((firstN nd lg (k + 1) : Nat) : Int)] 3)) fb n lg ∧ (w1.alloc (.cells #[.int .i64 ((firstN nd lg (k + 1) : Nat) : Int)] 3)).cell? ⟨g, k, none⟩ = some (.int .i64 (firstN nd lg k : Int)) ∧ (w1.alloc (.cells #[.int .i64 ((firstN nd lg (k + 1) : Nat) : Int)] 3)).ownsRow W.heap.size 3 1 (.slice (some ⟨g, 0, none⟩) (k + 1) c) (k + 1) (firL nd lg (k + 1)) ∧ Below W.heap.size W (w1.alloc (.cells #[.int .i64 ((firstN nd lg (k + 1) : Nat) : Int)] 3)) ∧ (w1.alloc (.cells #[.int .i64 ((firstN nd lg (k + 1) : Nat) : Int)] 3)).heap[w1.heap.size]? = some (.cells #[.int .i64 ((firstN nd lg (k + 1) : Nat) : Int)] 3)) := by
          have q := lboxL w1 (.cells #[.int .i64 ((firstN nd lg (k + 1) : Nat) : Int)] 3)
          have hg2 := H2.out.2.2.2.1.lt g rfl
          exact Lib.hid ⟨H2.out.1.below q, H2.out.2.1.below q, (q.cell (p := ⟨g, k, none⟩) hg2.2).trans H2.out.2.2.1, own_below H2.out.2.2.2.1 q, H2.out.2.2.2.2.trans (q.mono H2.out.2.2.2.2.size), World.alloc_heap_new w1 _⟩
        refine held_one (i := 15) (by kernel_rfl) rfl (fun K hK => ?_)
        go_simp
        refine hK.out _ _ ⟨H3.out.1, H3.out.2.1⟩ (fun hH2 => ?_)
        clear hK K hHeld H2
        (try simp only [Act.put, List.setIfInBounds_toArray, List.set_cons_zero, List.set_cons_succ, List.getElem_toArray, List.getElem_cons_zero, List.getElem_cons_succ])
        generalize w1.alloc (.cells #[.int .i64 ((firstN nd lg (k + 1) : Nat) : Int)] 3) = Z at H3 hH2 ⊢
        generalize w1.heap.size = nb at H3 ⊢
        obtain ⟨i8, hi8, hz8, hs8, hb8⟩ := info_parts6 info_intL
        refine held_one (i := 16) (by kernel_rfl) rfl (fun K hK => ?_)
        rw [if_pos (by kernel_rfl)]
        refine oper_append6 (.tmp 14) (.tmp 29) 45 rfl W.heap.size 3 i8 _ 1 8 Try.underlying45 hi8 hz8 hs8 hb8 rfl (by decide) (.slice (some ⟨g, 0, none⟩) (k + 1) c) (k + 1) (firL nd lg (k + 1)) rfl H3.out.2.2.2.1 ⟨nb, 0, none⟩ 1 1 [.int .i64 ((firstN nd lg (k + 1) : Nat) : Int)] rfl rfl (fun j u hj => ?_) (fun u hu => ?_) (by unfold maxLen; omega) (by omega) H3.out.2.2.2.2.1.size ?_
        · rw [addr_add, Nat.zero_add]
          exact cellL H3.out.2.2.2.2.2 j (v := u) (by simpa using hj)
        · simp only [List.mem_cons, List.not_mem_nil, or_false] at hu
          rw [hu]; rfl
        intro v' Y4 ho hg hv9
        rw [← firL_succ] at ho
        have H4 := Lib.hid (And.intro ho (below_own H3.out.2.2.2.2.1 H3.out.2.2.2.1 hg (Nat.le_refl _)))
        refine hK.out _ _ ⟨HN.out.1.below H4.out.2, HN.out.2.below H4.out.2⟩ (fun hH3 => ?_)
        clear hK K hH2 ho hg hv9 H3
        (try simp only [Act.put, List.setIfInBounds_toArray, List.set_cons_zero, List.set_cons_succ, List.getElem_toArray, List.getElem_cons_zero, List.getElem_cons_succ])
        refine wpAnyH_take (i := 17) (v := ?_) rfl (by kernel_rfl) (by kernel_rfl) (by kernel_rfl) (fun _ _ _ h => h) (Or.inl ⟨by rfl, ?_⟩) (by assumption) ?_
        rotate_left
        · intro wS hSw
          (skip)
          go_simp
          all_goals with_reducible rfl
        (try simp only [List.getElem_toArray, List.getElem_cons_zero, List.getElem_cons_succ, Act.put, List.setIfInBounds_toArray, List.set_cons_zero, List.set_cons_succ])
        refine wpAnyH_done (by kernel_rfl) ?_ _
        go_wp2
        exact ⟨⟨k + 1, by omega, by go_num, H4.out.1, H4.out.2⟩, by simp [intOf]; omega⟩
      · go_simp
        go_at_call 22
        refine (HSZ.out _).mono ?_
        rintro e w1 ⟨rfl, hb1⟩
        have H2 : Hid (NdAt w1 (some ⟨ab, ao, none⟩) n nd ∧ FarAt w1 fb n lg ∧ w1.cell? ⟨g, k, none⟩ = some (.int .i64 (firstN nd lg k : Int)) ∧ w1.ownsRow W.heap.size 3 1 (.slice (some ⟨g, 0, none⟩) (k + 1) c) (k + 1) (firL nd lg (k + 1)) ∧ Below W.heap.size W w1) := Lib.hid ⟨H1.out.1.below hb1, H1.out.2.1.below hb1, (hb1.cell (p := ⟨g, k, none⟩) H1.out.2.2.2.2.2).trans H1.out.2.2.1, own_below H1.out.2.2.2.1 hb1, H1.out.2.2.2.2.1.trans (hb1.mono H1.out.2.2.2.2.1.size)⟩
        clear hHeld
        refine hK.out _ _ ⟨H2.out.1, H2.out.2.1⟩ (fun hHeld0 => ?_)
        clear hK K hb1 H1
        (try simp only [Act.put, List.setIfInBounds_toArray, List.set_cons_zero, List.set_cons_succ, List.getElem_toArray, List.getElem_cons_zero, List.getElem_cons_succ])
        refine held_one (i := 4) (by kernel_rfl) rfl (fun K hK => ?_)
        have x0 := H2.out.2.2.1
        go_simp
        refine hK.out _ _ ⟨H2.out.1, H2.out.2.1⟩ (fun hHeld => ?_)
        clear hK K x0 hHeld0
        (try simp only [Act.put, List.setIfInBounds_toArray, List.set_cons_zero, List.set_cons_succ, List.getElem_toArray, List.getElem_cons_zero, List.getElem_cons_succ])
        refine wpAnyH_take (i := 14) (v := ?_) rfl (by kernel_rfl) (by kernel_rfl) (by kernel_rfl) (fun _ _ _ h => h) (Or.inl ⟨by rfl, ?_⟩) (by assumption) ?_
        rotate_left
        · intro wS hSw
          (skip)
          go_simp
          all_goals with_reducible rfl
        (try simp only [List.getElem_toArray, List.getElem_cons_zero, List.getElem_cons_succ, Act.put, List.setIfInBounds_toArray, List.set_cons_zero, List.set_cons_succ])
        have H3 : Hid (NdAt (w1.alloc (.cells #[.int .i64 ((firstN nd lg (k + 1) : Nat) : Int)] 3)) (some ⟨ab, ao, none⟩) n nd ∧ FarAt (w1.alloc (.cells #[.int .i64 ((firstN nd lg (k + 1) : Nat) : Int)] 3)) fb n lg ∧ (w1.alloc (.cells #[.int .i64 ((firstN nd lg (k + 1) : Nat) : Int)] 3)).cell? ⟨g, k, none⟩ = some (.int .i64 (firstN nd lg k : Int)) ∧ (w1.alloc (.cells #[.int .i64 ((firstN nd lg (k + 1) : Nat) : Int)] 3)).ownsRow W.heap.size 3 1 (.slice (some ⟨g, 0, none⟩) (k + 1) c) (k + 1) (firL nd lg (k + 1)) ∧ Below W.heap.size W (w1.alloc (.cells #[.int .i64 ((firstN nd lg (k + 1) : Nat) : Int)] 3)) ∧ (w1.alloc (.cells #[.int .i64 ((firstN nd lg (k + 1) : Nat) : Int)] 3)).heap[w1.heap.size]? = some (.cells #[.int .i64 ((firstN nd lg (k + 1) : Nat) : Int)] 3)) := by
          have q := lboxL w1 (.cells #[.int .i64 ((firstN nd lg (k + 1) : Nat) : Int)] 3)
          have hg2 := H2.out.2.2.2.1.lt g rfl
          exact Lib.hid ⟨H2.out.1.below q, H2.out.2.1.below q, (q.cell (p := ⟨g, k, none⟩) hg2.2).trans H2.out.2.2.1, own_below H2.out.2.2.2.1 q, H2.out.2.2.2.2.trans (q.mono H2.out.2.2.2.2.size), World.alloc_heap_new w1 _⟩
        refine held_one (i := 15) (by kernel_rfl) rfl (fun K hK => ?_)
        go_simp
        refine hK.out _ _ ⟨H3.out.1, H3.out.2.1⟩ (fun hH2 => ?_)
        clear hK K hHeld H2
        (try simp only [Act.put, List.setIfInBounds_toArray, List.set_cons_zero, List.set_cons_succ, List.getElem_toArray, List.getElem_cons_zero, List.getElem_cons_succ])
        generalize w1.alloc (.cells #[.int .i64 ((firstN nd lg (k + 1) : Nat) : Int)] 3) = Z at H3 hH2 ⊢
        generalize w1.heap.size = nb at H3 ⊢
        obtain ⟨i8, hi8, hz8, hs8, hb8⟩ := info_parts6 info_intL
        refine held_one (i := 16) (by kernel_rfl) rfl (fun K hK => ?_)
        rw [if_pos (by kernel_rfl)]
        refine oper_append6 (.tmp 14) (.tmp 29) 45 rfl W.heap.size 3 i8 _ 1 8 Try.underlying45 hi8 hz8 hs8 hb8 rfl (by decide) (.slice (some ⟨g, 0, none⟩) (k + 1) c) (k + 1) (firL nd lg (k + 1)) rfl H3.out.2.2.2.1 ⟨nb, 0, none⟩ 1 1 [.int .i64 ((firstN nd lg (k + 1) : Nat) : Int)] rfl rfl (fun j u hj => ?_) (fun u hu => ?_) (by unfold maxLen; omega) (by omega) H3.out.2.2.2.2.1.size ?_
        · rw [addr_add, Nat.zero_add]
          exact cellL H3.out.2.2.2.2.2 j (v := u) (by simpa using hj)
        · simp only [List.mem_cons, List.not_mem_nil, or_false] at hu
          rw [hu]; rfl
        intro v' Y4 ho hg hv9
        rw [← firL_succ] at ho
        have H4 := Lib.hid (And.intro ho (below_own H3.out.2.2.2.2.1 H3.out.2.2.2.1 hg (Nat.le_refl _)))
        refine hK.out _ _ ⟨HN.out.1.below H4.out.2, HN.out.2.below H4.out.2⟩ (fun hH3 => ?_)
        clear hK K hH2 ho hg hv9 H3
        (try simp only [Act.put, List.setIfInBounds_toArray, List.set_cons_zero, List.set_cons_succ, List.getElem_toArray, List.getElem_cons_zero, List.getElem_cons_succ])
        refine wpAnyH_take (i := 17) (v := ?_) rfl (by kernel_rfl) (by kernel_rfl) (by kernel_rfl) (fun _ _ _ h => h) (Or.inl ⟨by rfl, ?_⟩) (by assumption) ?_
        rotate_left
        · intro wS hSw
          (skip)
          go_simp
          all_goals with_reducible rfl
        (try simp only [List.getElem_toArray, List.getElem_cons_zero, List.getElem_cons_succ, Act.put, List.setIfInBounds_toArray, List.set_cons_zero, List.set_cons_succ])
        refine wpAnyH_done (by kernel_rfl) ?_ _
        go_wp2
        exact ⟨⟨k + 1, by omega, by go_num, H4.out.1, H4.out.2⟩, by simp [intOf]; omega⟩
    · obtain rfl : k = n := by omega
      go_wp2
      go_ret
      exact ⟨_, rfl, HR.out.1, HR.out.2⟩
end Go.Proofs.Ytfeeainhelegjaa
