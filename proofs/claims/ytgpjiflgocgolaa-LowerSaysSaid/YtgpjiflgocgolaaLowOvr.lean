/-
  How far a test's ways are: a contract. Conditions: those that it names.
-/
import Derived.Test.YtgpjiflgocgolaaLowPlc
import Derived.RangeFuncRecord
namespace Go.Proofs.Ytgpjiflgocgolaa
open Go Go.RowKit
set_option linter.unusedSimpArgs false
set_option linter.unusedVariables false

set_option maxHeartbeats 4000000 in
set_option maxRecDepth 100000 in
theorem p_over {B : Nat} {W : World} {b : Nat} {A : Option Addr} {n cap : Nat} {nd : Nat → Nd} {lb fb : Nat} {lg lgc : Ways} (h : LayAt B W b A n cap nd lb fb lgc (firstN nd lg)) (hn : n ≤ 4096) {i : Nat} (hi : i < n) (hc : lgc i = lg i)
    (hways : ((i : Int) < (nd i).t ∧ (nd i).t < n) ∧ ((i : Int) < (nd i).f ∧ (nd i).f < n)) :
    Calls Try.prog 53 #[.pointer (some ⟨b, 0, none⟩), .int .i64 i] W fun e w' => e = .returned (.tuple #[.int .i64 (overT nd lg i), .int .i64 (overF nd lg i)]) ∧ Below W.heap.size W w' := by
  have HC := Lib.hid hc
  clear hc
  have hlt' : (i : Int) < (n : Int) := by omega
  have hlt1 : (i : Int) < (n : Int) + 1 := by omega
  have hw : IntKind.i64.wrap ((i : Int) + 1) = ((i + 1 : Nat) : Int) := by rw [IntWalk.i64_in _ (by omega)]; omega
  have hge1 : (0 : Int) ≤ (i : Int) + 1 := by omega
  have HM := Lib.hid (fun w => p_many (lg i) w)
  have hm := many_le (lg i)
  obtain ⟨ab, ao, rfl, hl, c0, c1, c2, c3, c4, c5, c6, c7⟩ := nd_at h.nds hi
  obtain ⟨t, ht⟩ : ∃ t : Nat, (nd i).t = (t : Int) := ⟨(nd i).t.toNat, by omega⟩
  obtain ⟨f, hf⟩ : ∃ f : Nat, (nd i).f = (f : Int) := ⟨(nd i).f.toNat, by omega⟩
  rw [ht] at c6
  rw [hf] at c7
  have hb1 := lboxL W (.cells #[.bool (nd i).leaf, .int .u32 ((nd i).word : Int), .int .i64 (nd i).off, .int .u32 ((nd i).mask : Int), .int .i64 (nd i).op, .int .u32 ((nd i).k : Int), .int .i64 (t : Int), .int .i64 (f : Int)] 48)
  have h1 := h.below hb1
  obtain ⟨k0, k1, k2⟩ := lay_box h
  have HN : (W.alloc (.cells #[.bool (nd i).leaf, .int .u32 ((nd i).word : Int), .int .i64 (nd i).off, .int .u32 ((nd i).mask : Int), .int .i64 (nd i).op, .int .u32 ((nd i).k : Int), .int .i64 (t : Int), .int .i64 (f : Int)] 48)).heap[W.heap.size]? = some (.cells #[.bool (nd i).leaf, .int .u32 ((nd i).word : Int), .int .i64 (nd i).off, .int .u32 ((nd i).mask : Int), .int .i64 (nd i).op, .int .u32 ((nd i).k : Int), .int .i64 (t : Int), .int .i64 (f : Int)] 48) := World.alloc_heap_new W _
  have HB := Lib.hid (And.intro hb1 (And.intro h1 HN))
  have htn : t < n := by omega
  have hfn : f < n := by omega
  have l1 := first_le nd lg (i + 1)
  have l2 := first_le nd lg t
  have l3 := first_le nd lg f
  have HV : Hid (behN nd lg i = (firstN nd lg (i + 1) : Int) - (manyN (lg i) : Int) ∧ overT nd lg i = (firstN nd lg t : Int) - behN nd lg i ∧ overF nd lg i = (firstN nd lg f : Int) - behN nd lg i) := Lib.hid ⟨rfl, by unfold overT; rw [ht]; rfl, by unfold overF; rw [hf]; rfl⟩
  clear h h1 hb1 HN ht hf hways
  go_enter Try.func53, Try.ntmps53
  go_upto_region 2 with fail
  have HD0 : Hid (Below W.heap.size W (W.alloc (.cells #[.bool (nd i).leaf, .int .u32 ((nd i).word : Int), .int .i64 (nd i).off, .int .u32 ((nd i).mask : Int), .int .i64 (nd i).op, .int .u32 ((nd i).k : Int), .int .i64 (t : Int), .int .i64 (f : Int)] 48)).drew ∧ LayAt B (W.alloc (.cells #[.bool (nd i).leaf, .int .u32 ((nd i).word : Int), .int .i64 (nd i).off, .int .u32 ((nd i).mask : Int), .int .i64 (nd i).op, .int .u32 ((nd i).k : Int), .int .i64 (t : Int), .int .i64 (f : Int)] 48)).drew b (some ⟨ab, ao, none⟩) n cap nd lb fb lgc (firstN nd lg) ∧ (W.alloc (.cells #[.bool (nd i).leaf, .int .u32 ((nd i).word : Int), .int .i64 (nd i).off, .int .u32 ((nd i).mask : Int), .int .i64 (nd i).op, .int .u32 ((nd i).k : Int), .int .i64 (t : Int), .int .i64 (f : Int)] 48)).drew.heap[W.heap.size]? = some (.cells #[.bool (nd i).leaf, .int .u32 ((nd i).word : Int), .int .i64 (nd i).off, .int .u32 ((nd i).mask : Int), .int .i64 (nd i).op, .int .u32 ((nd i).k : Int), .int .i64 (t : Int), .int .i64 (f : Int)] 48)) := Lib.hid ⟨HB.out.1.drew, HB.out.2.1.below (below_drawn (Below.refl _ _) 1), HB.out.2.2⟩
  refine wp_region_held_drew (S := fun W' => LayAt B W' b (some ⟨ab, ao, none⟩) n cap nd lb fb lgc (firstN nd lg)) (by kernel_rfl) HD0.out.2.1 (fun hHeld => ?_)
  clear HB
  generalize (W.alloc (.cells #[.bool (nd i).leaf, .int .u32 ((nd i).word : Int), .int .i64 (nd i).off, .int .u32 ((nd i).mask : Int), .int .i64 (nd i).op, .int .u32 ((nd i).k : Int), .int .i64 (t : Int), .int .i64 (f : Int)] 48)).drew = Y at HD0 hHeld ⊢
  refine wpAnyH_take (i := 0) (v := ?_) rfl (by kernel_rfl) (by kernel_rfl) (by kernel_rfl) (fun _ _ _ h => h) (Or.inl ⟨by rfl, ?_⟩) (by assumption) ?_
  rotate_left
  · intro wS hSw
    (obtain ⟨m0, m1, m2⟩ := lay_box hSw; have m3 := lay_first hSw (i := i + 1) (by omega); obtain ⟨g0, g1⟩ := lay_long hSw hi; rw [HC.out] at g0 g1)
    go_simp
    all_goals with_reducible rfl
  (try simp only [List.getElem_toArray, List.getElem_cons_zero, List.getElem_cons_succ, Act.put, List.setIfInBounds_toArray, List.set_cons_zero, List.set_cons_succ])
  refine wpAnyH_take (i := 1) (v := ?_) rfl (by kernel_rfl) (by kernel_rfl) (by kernel_rfl) (fun _ _ _ h => h) (Or.inl ⟨by rfl, ?_⟩) (by assumption) ?_
  rotate_left
  · intro wS hSw
    (obtain ⟨m0, m1, m2⟩ := lay_box hSw; have m3 := lay_first hSw (i := i + 1) (by omega); obtain ⟨g0, g1⟩ := lay_long hSw hi; rw [HC.out] at g0 g1)
    go_simp
    all_goals with_reducible rfl
  (try simp only [List.getElem_toArray, List.getElem_cons_zero, List.getElem_cons_succ, Act.put, List.setIfInBounds_toArray, List.set_cons_zero, List.set_cons_succ])
  refine wpAnyH_take (i := 2) (v := ?_) rfl (by kernel_rfl) (by kernel_rfl) (by kernel_rfl) (fun _ _ _ h => h) (Or.inl ⟨by rfl, ?_⟩) (by assumption) ?_
  rotate_left
  · intro wS hSw
    (obtain ⟨m0, m1, m2⟩ := lay_box hSw; have m3 := lay_first hSw (i := i + 1) (by omega); obtain ⟨g0, g1⟩ := lay_long hSw hi; rw [HC.out] at g0 g1)
    go_simp
    all_goals with_reducible rfl
  (try simp only [List.getElem_toArray, List.getElem_cons_zero, List.getElem_cons_succ, Act.put, List.setIfInBounds_toArray, List.set_cons_zero, List.set_cons_succ])
  refine wpAnyH_take (i := 3) (v := ?_) rfl (by kernel_rfl) (by kernel_rfl) (by kernel_rfl) (fun _ _ _ h => h) (Or.inl ⟨by rfl, ?_⟩) (by assumption) ?_
  rotate_left
  · intro wS hSw
    (obtain ⟨m0, m1, m2⟩ := lay_box hSw; have m3 := lay_first hSw (i := i + 1) (by omega); obtain ⟨g0, g1⟩ := lay_long hSw hi; rw [HC.out] at g0 g1)
    go_simp
    all_goals with_reducible rfl
  (try simp only [List.getElem_toArray, List.getElem_cons_zero, List.getElem_cons_succ, Act.put, List.setIfInBounds_toArray, List.set_cons_zero, List.set_cons_succ])
  refine wpAnyH_take (i := 4) (v := ?_) rfl (by kernel_rfl) (by kernel_rfl) (by kernel_rfl) (fun _ _ _ h => h) (Or.inl ⟨by rfl, ?_⟩) (by assumption) ?_
  rotate_left
  · intro wS hSw
    (obtain ⟨m0, m1, m2⟩ := lay_box hSw; have m3 := lay_first hSw (i := i + 1) (by omega); obtain ⟨g0, g1⟩ := lay_long hSw hi; rw [HC.out] at g0 g1)
    go_simp
    all_goals with_reducible rfl
  (try simp only [List.getElem_toArray, List.getElem_cons_zero, List.getElem_cons_succ, Act.put, List.setIfInBounds_toArray, List.set_cons_zero, List.set_cons_succ])
  refine wpAnyH_take (i := 5) (v := ?_) rfl (by kernel_rfl) (by kernel_rfl) (by kernel_rfl) (fun _ _ _ h => h) (Or.inl ⟨by rfl, ?_⟩) (by assumption) ?_
  rotate_left
  · intro wS hSw
    (obtain ⟨m0, m1, m2⟩ := lay_box hSw; have m3 := lay_first hSw (i := i + 1) (by omega); obtain ⟨g0, g1⟩ := lay_long hSw hi; rw [HC.out] at g0 g1)
    go_simp
    all_goals with_reducible rfl
  (try simp only [List.getElem_toArray, List.getElem_cons_zero, List.getElem_cons_succ, Act.put, List.setIfInBounds_toArray, List.set_cons_zero, List.set_cons_succ])
  refine wpAnyH_take (i := 6) (v := ?_) rfl (by kernel_rfl) (by kernel_rfl) (by kernel_rfl) (fun _ _ _ h => h) (Or.inl ⟨by rfl, ?_⟩) (by assumption) ?_
  rotate_left
  · intro wS hSw
    (obtain ⟨m0, m1, m2⟩ := lay_box hSw; have m3 := lay_first hSw (i := i + 1) (by omega); obtain ⟨g0, g1⟩ := lay_long hSw hi; rw [HC.out] at g0 g1)
    go_simp
    all_goals with_reducible rfl
  (try simp only [List.getElem_toArray, List.getElem_cons_zero, List.getElem_cons_succ, Act.put, List.setIfInBounds_toArray, List.set_cons_zero, List.set_cons_succ])
  refine wpAnyH_take (i := 7) (v := ?_) rfl (by kernel_rfl) (by kernel_rfl) (by kernel_rfl) (fun _ _ _ h => h) (Or.inl ⟨by rfl, ?_⟩) (by assumption) ?_
  rotate_left
  · intro wS hSw
    (obtain ⟨m0, m1, m2⟩ := lay_box hSw; have m3 := lay_first hSw (i := i + 1) (by omega); obtain ⟨g0, g1⟩ := lay_long hSw hi; rw [HC.out] at g0 g1)
    go_simp
    all_goals with_reducible rfl
  (try simp only [List.getElem_toArray, List.getElem_cons_zero, List.getElem_cons_succ, Act.put, List.setIfInBounds_toArray, List.set_cons_zero, List.set_cons_succ])
  refine wpAnyH_take (i := 8) (v := ?_) rfl (by kernel_rfl) (by kernel_rfl) (by kernel_rfl) (fun _ _ _ h => h) (Or.inl ⟨by rfl, ?_⟩) (by assumption) ?_
  rotate_left
  · intro wS hSw
    (obtain ⟨m0, m1, m2⟩ := lay_box hSw; have m3 := lay_first hSw (i := i + 1) (by omega); obtain ⟨g0, g1⟩ := lay_long hSw hi; rw [HC.out] at g0 g1)
    go_simp
    all_goals with_reducible rfl
  (try simp only [List.getElem_toArray, List.getElem_cons_zero, List.getElem_cons_succ, Act.put, List.setIfInBounds_toArray, List.set_cons_zero, List.set_cons_succ])
  refine wpAnyH_take (i := 9) (v := ?_) rfl (by kernel_rfl) (by kernel_rfl) (by kernel_rfl) (fun _ _ _ h => h) (Or.inl ⟨by rfl, ?_⟩) (by assumption) ?_
  rotate_left
  · intro wS hSw
    (obtain ⟨m0, m1, m2⟩ := lay_box hSw; have m3 := lay_first hSw (i := i + 1) (by omega); obtain ⟨g0, g1⟩ := lay_long hSw hi; rw [HC.out] at g0 g1)
    go_simp
    all_goals with_reducible rfl
  (try simp only [List.getElem_toArray, List.getElem_cons_zero, List.getElem_cons_succ, Act.put, List.setIfInBounds_toArray, List.set_cons_zero, List.set_cons_succ])
  refine wpAnyH_take (i := 10) (v := ?_) rfl (by kernel_rfl) (by kernel_rfl) (by kernel_rfl) (fun _ _ _ h => h) (Or.inl ⟨by rfl, ?_⟩) (by assumption) ?_
  rotate_left
  · intro wS hSw
    (obtain ⟨m0, m1, m2⟩ := lay_box hSw; have m3 := lay_first hSw (i := i + 1) (by omega); obtain ⟨g0, g1⟩ := lay_long hSw hi; rw [HC.out] at g0 g1)
    go_simp
    all_goals with_reducible rfl
  (try simp only [List.getElem_toArray, List.getElem_cons_zero, List.getElem_cons_succ, Act.put, List.setIfInBounds_toArray, List.set_cons_zero, List.set_cons_succ])
  refine wpAnyH_take (i := 11) (v := ?_) rfl (by kernel_rfl) (by kernel_rfl) (by kernel_rfl) (fun _ _ _ h => h) (Or.inl ⟨by rfl, ?_⟩) (by assumption) ?_
  rotate_left
  · intro wS hSw
    (obtain ⟨m0, m1, m2⟩ := lay_box hSw; have m3 := lay_first hSw (i := i + 1) (by omega); obtain ⟨g0, g1⟩ := lay_long hSw hi; rw [HC.out] at g0 g1)
    go_simp
    all_goals with_reducible rfl
  (try simp only [List.getElem_toArray, List.getElem_cons_zero, List.getElem_cons_succ, Act.put, List.setIfInBounds_toArray, List.set_cons_zero, List.set_cons_succ])
  refine wpAnyH_take (i := 12) (v := ?_) rfl (by kernel_rfl) (by kernel_rfl) (by kernel_rfl) (fun _ _ _ h => h) (Or.inl ⟨by rfl, ?_⟩) (by assumption) ?_
  rotate_left
  · intro wS hSw
    (obtain ⟨m0, m1, m2⟩ := lay_box hSw; have m3 := lay_first hSw (i := i + 1) (by omega); obtain ⟨g0, g1⟩ := lay_long hSw hi; rw [HC.out] at g0 g1)
    go_simp
    all_goals with_reducible rfl
  (try simp only [List.getElem_toArray, List.getElem_cons_zero, List.getElem_cons_succ, Act.put, List.setIfInBounds_toArray, List.set_cons_zero, List.set_cons_succ])
  refine wpAnyH_take (i := 13) (v := ?_) rfl (by kernel_rfl) (by kernel_rfl) (by kernel_rfl) (fun _ _ _ h => h) (Or.inl ⟨by rfl, ?_⟩) (by assumption) ?_
  rotate_left
  · intro wS hSw
    (obtain ⟨m0, m1, m2⟩ := lay_box hSw; have m3 := lay_first hSw (i := i + 1) (by omega); obtain ⟨g0, g1⟩ := lay_long hSw hi; rw [HC.out] at g0 g1)
    go_simp
    all_goals with_reducible rfl
  (try simp only [List.getElem_toArray, List.getElem_cons_zero, List.getElem_cons_succ, Act.put, List.setIfInBounds_toArray, List.set_cons_zero, List.set_cons_succ])
  refine wpAnyH_take (i := 14) (v := ?_) rfl (by kernel_rfl) (by kernel_rfl) (by kernel_rfl) (fun _ _ _ h => h) (Or.inl ⟨by rfl, ?_⟩) (by assumption) ?_
  rotate_left
  · intro wS hSw
    (obtain ⟨m0, m1, m2⟩ := lay_box hSw; have m3 := lay_first hSw (i := i + 1) (by omega); obtain ⟨g0, g1⟩ := lay_long hSw hi; rw [HC.out] at g0 g1)
    go_simp
    all_goals with_reducible rfl
  (try simp only [List.getElem_toArray, List.getElem_cons_zero, List.getElem_cons_succ, Act.put, List.setIfInBounds_toArray, List.set_cons_zero, List.set_cons_succ])
  refine held_one (i := 15) (by kernel_rfl) rfl (fun K hK => ?_)
  go_simp
  go_at_call 89
  refine (HM.out Y).mono ?_
  rintro e w1 ⟨rfl, hb1⟩
  have HD1 := Lib.hid (And.intro (HD0.out.1.trans (hb1.mono HD0.out.1.size)) (And.intro (HD0.out.2.1.below hb1) ((hb1.block _ (Array.getElem?_eq_some_iff.1 HD0.out.2.2).1).trans HD0.out.2.2)))
  clear hHeld
  have hHeld := HD1.out.2.1
  refine hK.out _ _ hHeld (fun hH2 => ?_)
  clear hK K hH2 hb1 HD0
  (try simp only [Act.put, List.setIfInBounds_toArray, List.set_cons_zero, List.set_cons_succ, List.getElem_toArray, List.getElem_cons_zero, List.getElem_cons_succ])
  refine wpAnyH_take (i := 16) (v := ?_) rfl (by kernel_rfl) (by kernel_rfl) (by kernel_rfl) (fun _ _ _ h => h) (Or.inl ⟨by rfl, ?_⟩) (by assumption) ?_
  rotate_left
  · intro wS hSw
    (skip)
    go_simp
    all_goals with_reducible rfl
  (try simp only [List.getElem_toArray, List.getElem_cons_zero, List.getElem_cons_succ, Act.put, List.setIfInBounds_toArray, List.set_cons_zero, List.set_cons_succ])
  refine wpAnyH_take (i := 17) (v := ?_) rfl (by kernel_rfl) (by kernel_rfl) (by kernel_rfl) (fun _ _ _ h => h) (Or.inl ⟨by rfl, ?_⟩) (by assumption) ?_
  rotate_left
  · intro wS hSw
    (skip)
    go_simp
    all_goals with_reducible rfl
  (try simp only [List.getElem_toArray, List.getElem_cons_zero, List.getElem_cons_succ, Act.put, List.setIfInBounds_toArray, List.set_cons_zero, List.set_cons_succ])
  refine wpAnyH_done (by kernel_rfl) ?_ _
  clear hHeld
  obtain ⟨p0, p1, p2⟩ := lay_box HD1.out.2.1
  have q1 := lay_first HD1.out.2.1 (i := t) (by omega)
  have q2 := lay_first HD1.out.2.1 (i := f) (by omega)
  have a6 : w1.cell? ⟨W.heap.size, 6, none⟩ = some (.int .i64 (t : Int)) := by rw [Lib.cell_of_heap HD1.out.2.2]; rfl
  have a7 : w1.cell? ⟨W.heap.size, 7, none⟩ = some (.int .i64 (f : Int)) := by rw [Lib.cell_of_heap HD1.out.2.2]; rfl
  have ht1 : (t : Int) < (n : Int) + 1 := by omega
  have hf1 : (f : Int) < (n : Int) + 1 := by omega
  have hbw : IntKind.i64.wrap ((firstN nd lg (i + 1) : Int) - (manyN (lg i) : Int)) = behN nd lg i := by rw [IntWalk.i64_in _ (by omega), HV.out.1]
  have hlb : -2 ≤ behN nd lg i ∧ behN nd lg i ≤ 20485 := by rw [HV.out.1]; omega
  rw [hbw]
  clear hbw
  generalize behN nd lg i = be at HV hlb ⊢
  have HFB := Lib.hid (And.intro l2 (And.intro l3 hlb))
  clear l1 l2 l3 hlb
  go_wp2
  go_quiet (fail)
  go_wp2
  go_ret2
  refine ⟨?_, below_drawn HD1.out.1 nq⟩
  have e1 : wrap64 ((firstN nd lg t : Int) - be) = overT nd lg i := by rw [HV.out.2.1]; have := HFB.out; unfold wrap64; omega
  have e2 : wrap64 ((firstN nd lg f : Int) - be) = overF nd lg i := by rw [HV.out.2.2]; have := HFB.out; unfold wrap64; omega
  rw [← e1, ← e2] <;> rfl
end Go.Proofs.Ytgpjiflgocgolaa
