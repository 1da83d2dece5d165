/-
  The program of a decision, laid instruction by instruction: contracts. Conditions: those that each names.
-/
import Derived.Test.YtgpjiflgocgolaaLowOut
import Derived.Test.YtgpjiflgocgolaaOperAppend
namespace Go.Proofs.Ytgpjiflgocgolaa
open Go Go.RowKit
set_option linter.unusedSimpArgs false
set_option linter.unusedVariables false

theorem cellL {W : World} {B : Nat} {c : Array Value} {t : TypeId} (h : W.heap[B]? = some (.cells c t (0, 0))) (i : Nat) {v : Value} (hv : c[i]? = some v) : W.cell? ⟨B, i, none⟩ = some v := by
  unfold World.cell?; rw [h]; exact hv
theorem frozenL {W : World} {B : Nat} {c : Array Value} {t : TypeId} (h : W.heap[B]? = some (.cells c t (0, 0))) (i : Nat) : W.frozen? ⟨B, i, none⟩ = false := by
  unfold World.frozen?; rw [h]; simp
theorem heap_setL {w : World} {B : Nat} {c : Array Value} {T : TypeId} {z : Nat × Nat} (h : w.heap[B]? = some (.cells c T z)) (i : Nat) (v : Value) : (w.setCell ⟨B, i, none⟩ v).heap[B]? = some (.cells (c.setIfInBounds i v) T z) := by
  unfold World.setCell
  simp only [Array.getElem?_modify, if_true, h]
  rfl
theorem own_formL {w : World} {lo : Nat} {e : TypeId} {sz : Nat} {v : Value} {n : Nat} {xs : List Value} (h : w.ownsRow lo e sz v n xs) : ∃ A c, v = .slice A n c := by
  obtain ⟨_, h⟩ := h
  rcases h with ⟨rfl, rfl⟩ | ⟨g, cap, cur, rfl, _⟩
  · exact ⟨_, _, rfl⟩
  · exact ⟨_, _, rfl⟩
/-! ### Instructions in memory -/
abbrev i4V (i : I4) : Value := .agg #[.int .u16 (i.1 : Int), .int .u8 (i.2.1 : Int), .int .u8 (i.2.2.1 : Int), .int .u32 (i.2.2.2 : Int)]
abbrev i4C (i : I4) : List Value := [.int .u16 (i.1 : Int), .int .u8 (i.2.1 : Int), .int .u8 (i.2.2.1 : Int), .int .u32 (i.2.2.2 : Int)]
abbrev i4O (i : I4) : Obj := .cells #[.int .u16 (i.1 : Int), .int .u8 (i.2.1 : Int), .int .u8 (i.2.2.1 : Int), .int .u32 (i.2.2.2 : Int)] 50
def i4L (l : List I4) : List Value := l.flatMap i4C
theorem i4L_append (a b : List I4) : i4L (a ++ b) = i4L a ++ i4L b := List.flatMap_append
theorem info_insL : (Try.prog.info? 50).map (fun i => (i.zero, i.size, i.bytes)) = some (some (.agg #[.int .u16 0, .int .u8 0, .int .u8 0, .int .u32 0]), 4, 8) := by kernel_rfl
/-- A program that is being laid, apart from some blocks. -/
def PrgAt (B : Nat) (W : World) (pb : Nat) (xs : List I4) (S : Nat → Prop) : Prop := ∃ A c, W.heap[pb]? = some (.cells #[.slice A xs.length c] 74) ∧ W.ownsRow B 50 4 (.slice A xs.length c) xs.length (i4L xs) ∧ B ≤ pb ∧
  ∀ k, S k → k ≠ pb ∧ (Value.slice A xs.length c).ownBlock ≠ some k ∧ k < W.heap.size
theorem PrgAt.below {B : Nat} {W W' : World} {pb : Nat} {xs : List I4} {S : Nat → Prop} (h : PrgAt B W pb xs S) (hb : Below W.heap.size W W') : PrgAt B W' pb xs S := by
  obtain ⟨A, c, h1, h2, h3, h4⟩ := h
  exact ⟨A, c, (hb.block pb (Array.getElem?_eq_some_iff.1 h1).1).trans h1, own_below h2 hb, h3, fun k hk => ⟨(h4 k hk).1, (h4 k hk).2.1, Nat.lt_of_lt_of_le (h4 k hk).2.2 hb.size⟩⟩
/-- .. and from new ones. -/
theorem PrgAt.apart {B : Nat} {W W' : World} {pb : Nat} {xs : List I4} {S : Nat → Prop} (h : PrgAt B W pb xs S) (hb : Below W.heap.size W W') (S' : Nat → Prop) (hS : ∀ k, S' k → S k ∨ (W.heap.size ≤ k ∧ k < W'.heap.size)) : PrgAt B W' pb xs S' := by
  obtain ⟨A, c, h1, h2, h3, h4⟩ := h
  have hlt := (Array.getElem?_eq_some_iff.1 h1).1
  refine ⟨A, c, (hb.block pb hlt).trans h1, own_below h2 hb, h3, fun k hk => ?_⟩
  rcases hS k hk with g | g
  · exact ⟨(h4 k g).1, (h4 k g).2.1, Nat.lt_of_lt_of_le (h4 k g).2.2 hb.size⟩
  · exact ⟨by omega, fun e => by have := h2.lt _ e; omega, g.2⟩
theorem own_neP {B : Nat} {W : World} {v : Value} {n : Nat} {ys : List Value} {pb : Nat} {c : Array Value} (h : W.ownsRow B 50 4 v n ys) (hb : W.heap[pb]? = some (.cells c 74)) : v.ownBlock ≠ some pb := by
  obtain ⟨_, h⟩ := h
  rcases h with ⟨rfl, _⟩ | ⟨g, cap, cur, rfl, _, hg, _⟩
  · simp [Value.ownBlock]
  · intro e
    have : g = pb := by simpa [Value.ownBlock] using e
    subst this
    rw [hg] at hb
    injection hb with hb; injection hb with _ hb _; exact absurd hb (by decide)
theorem own_set {B : Nat} {W : World} {v : Value} {n : Nat} {ys : List Value} {pb k : Nat} {u : Value} {e : TypeId} {sz : Nat} (h : W.ownsRow B e sz v n ys) (hb : v.ownBlock ≠ some pb) : (W.setCell ⟨pb, k, none⟩ u).ownsRow B e sz v n ys :=
  h.kept (row := some pb) (grown_set (World.grownBy.refl W _) k u) (.inr (fun e => hb e))
set_option maxHeartbeats 1000000 in
set_option maxRecDepth 100000 in
theorem p_lay {B : Nat} {W : World} {pb : Nat} {xs : List I4} {S : Nat → Prop} (h : PrgAt B W pb xs S) (hB : B ≤ W.heap.size) (hn : xs.length ≤ 1000000000) (i : I4) :
    Calls Try.prog 29 #[.pointer (some ⟨pb, 0, none⟩), i4V i] W fun e w' => e = .returned (.tuple #[]) ∧ PrgAt B w' pb (xs ++ [i]) S ∧ Below B W w' ∧ ∀ k, S k → w'.heap[k]? = W.heap[k]? := by
  obtain ⟨A, c, hbox, hown, hpb, hS⟩ := h
  have hlt := (Array.getElem?_eq_some_iff.1 hbox).1
  have HS := Lib.hid hS
  have hWW := Nat.le_refl W.heap.size
  clear hS
  have H0 : Hid (Below W.heap.size W (W.alloc (i4O i)) ∧ (W.alloc (i4O i)).heap[pb]? = some (.cells #[.slice A xs.length c] 74) ∧ (W.alloc (i4O i)).ownsRow B 50 4 (.slice A xs.length c) xs.length (i4L xs) ∧ (W.alloc (i4O i)).heap[W.heap.size]? = some (i4O i)) :=
    Lib.hid ⟨lboxL W _, ((lboxL W _).block pb hlt).trans hbox, own_below hown (lboxL W _), World.alloc_heap_new W _⟩
  have HT : Hid ((Value.slice A xs.length c).ownBlock ≠ some W.heap.size ∧ W.heap.size ≠ pb) := Lib.hid ⟨fun e => by have := hown.lt _ e; omega, by omega⟩
  clear hbox hown
  go_enter Try.func29, Try.ntmps29
  go_upto_region 1 with fail
  have H1 : Hid (Below W.heap.size W (W.alloc (i4O i)).drew ∧ (W.alloc (i4O i)).drew.heap[pb]? = some (.cells #[.slice A xs.length c] 74) ∧ (W.alloc (i4O i)).drew.ownsRow B 50 4 (.slice A xs.length c) xs.length (i4L xs) ∧ (W.alloc (i4O i)).drew.heap[W.heap.size]? = some (i4O i)) :=
    Lib.hid ⟨H0.out.1.drew, H0.out.2.1, own_below H0.out.2.2.1 (below_drawn (Below.refl _ _) 1), H0.out.2.2.2⟩
  clear H0
  refine wp_region_held_drew (S := fun W' => W'.heap[W.heap.size]? = some (i4O i)) (by kernel_rfl) H1.out.2.2.2 (fun hHeld => ?_)
  generalize (W.alloc (i4O i)).drew = Y at H1 hHeld ⊢
  generalize hWt : W.heap.size = tb at hHeld HT ⊢
  rw [hWt] at H1
  have hBt : B ≤ tb := hWt ▸ hB
  have HWT := Lib.hid hWt
  clear hWt hWW
  obtain ⟨kc, kj, kf, kk⟩ := i
  refine wpAnyH_take (i := 0) (v := ?_) rfl (by kernel_rfl) (by kernel_rfl) (by kernel_rfl) (fun _ _ _ h => h) (Or.inl ⟨by rfl, ?_⟩) (by assumption) ?_
  rotate_left
  · intro wS hSw
    (have d0 := cellL hSw 0 rfl; have d1 := cellL hSw 1 rfl; have d2 := cellL hSw 2 rfl; have d3 := cellL hSw 3 rfl)
    go_simp
    all_goals with_reducible rfl
  (try simp only [List.getElem_toArray, List.getElem_cons_zero, List.getElem_cons_succ, Act.put, List.setIfInBounds_toArray, List.set_cons_zero, List.set_cons_succ])
  refine wpAnyH_take (i := 1) (v := ?_) rfl (by kernel_rfl) (by kernel_rfl) (by kernel_rfl) (fun _ _ _ h => h) (Or.inl ⟨by rfl, ?_⟩) (by assumption) ?_
  rotate_left
  · intro wS hSw
    (have d0 := cellL hSw 0 rfl; have d1 := cellL hSw 1 rfl; have d2 := cellL hSw 2 rfl; have d3 := cellL hSw 3 rfl)
    go_simp
    all_goals with_reducible rfl
  (try simp only [List.getElem_toArray, List.getElem_cons_zero, List.getElem_cons_succ, Act.put, List.setIfInBounds_toArray, List.set_cons_zero, List.set_cons_succ])
  refine wpAnyH_take (i := 2) (v := ?_) rfl (by kernel_rfl) (by kernel_rfl) (by kernel_rfl) (fun _ _ _ h => h) (Or.inl ⟨by rfl, ?_⟩) (by assumption) ?_
  rotate_left
  · intro wS hSw
    (have d0 := cellL hSw 0 rfl; have d1 := cellL hSw 1 rfl; have d2 := cellL hSw 2 rfl; have d3 := cellL hSw 3 rfl)
    go_simp
    all_goals with_reducible rfl
  (try simp only [List.getElem_toArray, List.getElem_cons_zero, List.getElem_cons_succ, Act.put, List.setIfInBounds_toArray, List.set_cons_zero, List.set_cons_succ])
  refine wpAnyH_take (i := 3) (v := ?_) rfl (by kernel_rfl) (by kernel_rfl) (by kernel_rfl) (fun _ _ _ h => h) (Or.inl ⟨by rfl, ?_⟩) (by assumption) ?_
  rotate_left
  · intro wS hSw
    (have d0 := cellL hSw 0 rfl; have d1 := cellL hSw 1 rfl; have d2 := cellL hSw 2 rfl; have d3 := cellL hSw 3 rfl)
    go_simp
    all_goals with_reducible rfl
  (try simp only [List.getElem_toArray, List.getElem_cons_zero, List.getElem_cons_succ, Act.put, List.setIfInBounds_toArray, List.set_cons_zero, List.set_cons_succ])
  refine wpAnyH_take (i := 5) (v := ?_) rfl (by kernel_rfl) (by kernel_rfl) (by kernel_rfl) (fun _ _ _ h => h) (Or.inl ⟨by rfl, ?_⟩) (by assumption) ?_
  rotate_left
  · intro wS hSw
    (have d0 := cellL hSw 0 rfl; have d1 := cellL hSw 1 rfl; have d2 := cellL hSw 2 rfl; have d3 := cellL hSw 3 rfl)
    go_simp
    all_goals with_reducible rfl
  (try simp only [List.getElem_toArray, List.getElem_cons_zero, List.getElem_cons_succ, Act.put, List.setIfInBounds_toArray, List.set_cons_zero, List.set_cons_succ])
  have H2 : Hid (Below tb W (Y.alloc (i4O (kc, kj, kf, kk))) ∧ (Y.alloc (i4O (kc, kj, kf, kk))).heap[pb]? = some (.cells #[.slice A xs.length c] 74) ∧ (Y.alloc (i4O (kc, kj, kf, kk))).ownsRow B 50 4 (.slice A xs.length c) xs.length (i4L xs) ∧ (Y.alloc (i4O (kc, kj, kf, kk))).heap[Y.heap.size]? = some (i4O (kc, kj, kf, kk)) ∧ (Y.alloc (i4O (kc, kj, kf, kk))).heap[tb]? = some (i4O (kc, kj, kf, kk))) := by
    have q := lboxL Y (i4O (kc, kj, kf, kk))
    exact Lib.hid ⟨H1.out.1.trans (q.mono (by rw [← HWT.out]; exact H1.out.1.size)), (q.block pb (Array.getElem?_eq_some_iff.1 H1.out.2.1).1).trans H1.out.2.1, own_below H1.out.2.2.1 q, World.alloc_heap_new Y _, (q.block tb (Array.getElem?_eq_some_iff.1 H1.out.2.2.2).1).trans H1.out.2.2.2⟩
  refine wpAnyH_ready (rs := [4, 6]) (by kernel_rfl) (by simp) (AllReadyH.cons rfl (fun K hK => ?_) (AllReadyH.cons rfl (fun K hK => ?_) AllReadyH.nil))
  · have e0 := cellL H1.out.2.1 0 (v := .slice A xs.length c) rfl
    go_simp
    refine hK.out _ _ H1.out.2.2.2 (fun hH1 => ?_)
    clear hK K hHeld H1 e0
    (try simp only [Act.put, List.setIfInBounds_toArray, List.set_cons_zero, List.set_cons_succ, List.getElem_toArray, List.getElem_cons_zero, List.getElem_cons_succ])
    refine held_one (i := 6) (by kernel_rfl) rfl (fun K hK => ?_)
    go_simp
    refine hK.out _ _ H2.out.2.2.2.2 (fun hH2 => ?_)
    clear hK K hH1
    (try simp only [Act.put, List.setIfInBounds_toArray, List.set_cons_zero, List.set_cons_succ, List.getElem_toArray, List.getElem_cons_zero, List.getElem_cons_succ])
    generalize Y.alloc (i4O (kc, kj, kf, kk)) = Z at H2 hH2 ⊢
    generalize Y.heap.size = nb at H2 ⊢
    obtain ⟨i8, hi8, hz8, hs8, hb8⟩ := info_parts6 info_insL
    refine held_one (i := 7) (by kernel_rfl) rfl (fun K hK => ?_)
    rw [if_pos (by kernel_rfl)]
    refine oper_append6 (.tmp 8) (.tmp 10) 27 rfl B 50 i8 _ 4 8 Try.underlying27 hi8 hz8 hs8 hb8 rfl (by decide) (.slice A xs.length c) xs.length (i4L xs) rfl H2.out.2.2.1 ⟨nb, 0, none⟩ 1 1 (i4C (kc, kj, kf, kk)) rfl rfl (fun j u hj => ?_) (fun u hu => ?_) (by unfold maxLen; omega) (by omega) (Nat.le_trans hB H2.out.1.size) ?_
    · rw [addr_add, Nat.zero_add]
      have := cellL H2.out.2.2.2.1 j (v := u)
      exact this (by simpa using hj)
    · simp only [List.mem_cons, List.not_mem_nil, or_false] at hu
      rcases hu with rfl | rfl | rfl | rfl <;> rfl
    intro v' Y4 ho hg hv
    have hne := own_neP H2.out.2.2.1 H2.out.2.1
    have hplt := (Array.getElem?_eq_some_iff.1 H2.out.2.1).1
    have hbox4 := (hg.block pb hplt (fun e => hne e.symm)).trans H2.out.2.1
    obtain ⟨A4, c4, rfl⟩ := own_formL ho
    have htb4 := (hg.block tb (Array.getElem?_eq_some_iff.1 H2.out.2.2.2.2).1 (fun e => HT.out.1 e.symm)).trans H2.out.2.2.2.2
    have H3 : Hid (Below B W Y4 ∧ Y4.heap[pb]? = some (.cells #[.slice A xs.length c] 74) ∧ Y4.ownsRow B 50 4 (.slice A4 (xs.length + 1) c4) (xs.length + 1) (i4L xs ++ i4C (kc, kj, kf, kk))) := Lib.hid ⟨below_own (H2.out.1.mono hBt) H2.out.2.2.1 hg hB, hbox4, ho⟩
    have HK : Hid (∀ k, S k → Y4.heap[k]? = W.heap[k]? ∧ (Value.slice A4 (xs.length + 1) c4).ownBlock ≠ some k ∧ k < Y4.heap.size) := Lib.hid (fun k hk => by
      obtain ⟨q1, q2, q3⟩ := HS.out k hk
      have q4 : k < Z.heap.size := Nat.lt_of_lt_of_le q3 H2.out.1.size
      refine ⟨(hg.block k q4 (fun e => q2 e.symm)).trans (H2.out.1.block k (by rw [← HWT.out]; exact q3)), fun e => ?_, Nat.lt_of_lt_of_le q4 hg.size⟩
      rcases hv with g | g
      · exact q2 (g.symm.trans e)
      · rw [g] at e; injection e with e; omega)
    refine hK.out _ _ htb4 (fun hH3 => ?_)
    clear hK K hH2 ho hg hv hne hplt hbox4 htb4 H2
    (try simp only [Act.put, List.setIfInBounds_toArray, List.set_cons_zero, List.set_cons_succ, List.getElem_toArray, List.getElem_cons_zero, List.getElem_cons_succ])
    refine wpAnyH_take (i := 8) (v := ?_) rfl (by kernel_rfl) (by kernel_rfl) (by kernel_rfl) (fun _ _ _ h => h) (Or.inl ⟨by rfl, ?_⟩) (by assumption) ?_
    rotate_left
    · intro wS hSw
      (skip)
      go_simp
      all_goals with_reducible rfl
    (try simp only [List.getElem_toArray, List.getElem_cons_zero, List.getElem_cons_succ, Act.put, List.setIfInBounds_toArray, List.set_cons_zero, List.set_cons_succ])
    refine wpAnyH_take (i := 9) (v := ?_) rfl (by kernel_rfl) (by kernel_rfl) (by kernel_rfl) (fun _ _ _ h => h) (Or.inl ⟨by rfl, ?_⟩) (by assumption) ?_
    rotate_left
    · intro wS hSw
      (skip)
      go_simp
      all_goals with_reducible rfl
    (try simp only [List.getElem_toArray, List.getElem_cons_zero, List.getElem_cons_succ, Act.put, List.setIfInBounds_toArray, List.set_cons_zero, List.set_cons_succ])
    have z0 := frozenL H3.out.2.1 0
    have e0 := cellL H3.out.2.1 0 (v := .slice A xs.length c) rfl
    refine held_one (i := 10) (by kernel_rfl) rfl (fun K hK => ?_)
    go_simp
    have hbox5 : (Y4.setCell ⟨pb, 0, none⟩ (.slice A4 (xs.length + 1) c4)).heap[pb]? = some (.cells #[.slice A4 (xs.length + 1) c4] 74) := heap_setL H3.out.2.1 0 _
    refine hK.out _ _ ?_ (fun hH4 => ?_)
    · exact (set_other (fun e => HT.out.2 e)).trans hH3
    clear hK K hH3 z0 e0
    refine wpAnyH_done (by kernel_rfl) ?_ _
    go_wp2
    go_end0
    refine ⟨rfl, ⟨A4, c4, ?_, ?_, hpb, fun k hk => ?_⟩, H3.out.1.setCell (p := ⟨pb, 0, none⟩) hpb _, fun k hk => (set_other (HS.out k hk).1).trans (HK.out k hk).1⟩
    · rw [List.length_append]; exact hbox5
    · rw [List.length_append, i4L_append]
      exact own_set H3.out.2.2 (own_neP H3.out.2.2 H3.out.2.1)
    · rw [List.length_append]
      exact ⟨(HS.out k hk).1, (HK.out k hk).2.1, by simpa [World.setCell] using (HK.out k hk).2.2⟩
  · go_simp
    refine hK.out _ _ H2.out.2.2.2.2 (fun hH1 => ?_)
    clear hK K hHeld H1
    (try simp only [Act.put, List.setIfInBounds_toArray, List.set_cons_zero, List.set_cons_succ, List.getElem_toArray, List.getElem_cons_zero, List.getElem_cons_succ])
    have e0 := cellL H2.out.2.1 0 (v := .slice A xs.length c) rfl
    refine held_one (i := 4) (by kernel_rfl) rfl (fun K hK => ?_)
    go_simp
    refine hK.out _ _ H2.out.2.2.2.2 (fun hH2 => ?_)
    clear hK K hH1 e0
    (try simp only [Act.put, List.setIfInBounds_toArray, List.set_cons_zero, List.set_cons_succ, List.getElem_toArray, List.getElem_cons_zero, List.getElem_cons_succ])
    generalize Y.alloc (i4O (kc, kj, kf, kk)) = Z at H2 hH2 ⊢
    generalize Y.heap.size = nb at H2 ⊢
    obtain ⟨i8, hi8, hz8, hs8, hb8⟩ := info_parts6 info_insL
    refine held_one (i := 7) (by kernel_rfl) rfl (fun K hK => ?_)
    rw [if_pos (by kernel_rfl)]
    refine oper_append6 (.tmp 8) (.tmp 10) 27 rfl B 50 i8 _ 4 8 Try.underlying27 hi8 hz8 hs8 hb8 rfl (by decide) (.slice A xs.length c) xs.length (i4L xs) rfl H2.out.2.2.1 ⟨nb, 0, none⟩ 1 1 (i4C (kc, kj, kf, kk)) rfl rfl (fun j u hj => ?_) (fun u hu => ?_) (by unfold maxLen; omega) (by omega) (Nat.le_trans hB H2.out.1.size) ?_
    · rw [addr_add, Nat.zero_add]
      have := cellL H2.out.2.2.2.1 j (v := u)
      exact this (by simpa using hj)
    · simp only [List.mem_cons, List.not_mem_nil, or_false] at hu
      rcases hu with rfl | rfl | rfl | rfl <;> rfl
    intro v' Y4 ho hg hv
    have hne := own_neP H2.out.2.2.1 H2.out.2.1
    have hplt := (Array.getElem?_eq_some_iff.1 H2.out.2.1).1
    have hbox4 := (hg.block pb hplt (fun e => hne e.symm)).trans H2.out.2.1
    obtain ⟨A4, c4, rfl⟩ := own_formL ho
    have htb4 := (hg.block tb (Array.getElem?_eq_some_iff.1 H2.out.2.2.2.2).1 (fun e => HT.out.1 e.symm)).trans H2.out.2.2.2.2
    have H3 : Hid (Below B W Y4 ∧ Y4.heap[pb]? = some (.cells #[.slice A xs.length c] 74) ∧ Y4.ownsRow B 50 4 (.slice A4 (xs.length + 1) c4) (xs.length + 1) (i4L xs ++ i4C (kc, kj, kf, kk))) := Lib.hid ⟨below_own (H2.out.1.mono hBt) H2.out.2.2.1 hg hB, hbox4, ho⟩
    have HK : Hid (∀ k, S k → Y4.heap[k]? = W.heap[k]? ∧ (Value.slice A4 (xs.length + 1) c4).ownBlock ≠ some k ∧ k < Y4.heap.size) := Lib.hid (fun k hk => by
      obtain ⟨q1, q2, q3⟩ := HS.out k hk
      have q4 : k < Z.heap.size := Nat.lt_of_lt_of_le q3 H2.out.1.size
      refine ⟨(hg.block k q4 (fun e => q2 e.symm)).trans (H2.out.1.block k (by rw [← HWT.out]; exact q3)), fun e => ?_, Nat.lt_of_lt_of_le q4 hg.size⟩
      rcases hv with g | g
      · exact q2 (g.symm.trans e)
      · rw [g] at e; injection e with e; omega)
    refine hK.out _ _ htb4 (fun hH3 => ?_)
    clear hK K hH2 ho hg hv hne hplt hbox4 htb4 H2
    (try simp only [Act.put, List.setIfInBounds_toArray, List.set_cons_zero, List.set_cons_succ, List.getElem_toArray, List.getElem_cons_zero, List.getElem_cons_succ])
    refine wpAnyH_take (i := 8) (v := ?_) rfl (by kernel_rfl) (by kernel_rfl) (by kernel_rfl) (fun _ _ _ h => h) (Or.inl ⟨by rfl, ?_⟩) (by assumption) ?_
    rotate_left
    · intro wS hSw
      (skip)
      go_simp
      all_goals with_reducible rfl
    (try simp only [List.getElem_toArray, List.getElem_cons_zero, List.getElem_cons_succ, Act.put, List.setIfInBounds_toArray, List.set_cons_zero, List.set_cons_succ])
    refine wpAnyH_take (i := 9) (v := ?_) rfl (by kernel_rfl) (by kernel_rfl) (by kernel_rfl) (fun _ _ _ h => h) (Or.inl ⟨by rfl, ?_⟩) (by assumption) ?_
    rotate_left
    · intro wS hSw
      (skip)
      go_simp
      all_goals with_reducible rfl
    (try simp only [List.getElem_toArray, List.getElem_cons_zero, List.getElem_cons_succ, Act.put, List.setIfInBounds_toArray, List.set_cons_zero, List.set_cons_succ])
    have z0 := frozenL H3.out.2.1 0
    have e0 := cellL H3.out.2.1 0 (v := .slice A xs.length c) rfl
    refine held_one (i := 10) (by kernel_rfl) rfl (fun K hK => ?_)
    go_simp
    have hbox5 : (Y4.setCell ⟨pb, 0, none⟩ (.slice A4 (xs.length + 1) c4)).heap[pb]? = some (.cells #[.slice A4 (xs.length + 1) c4] 74) := heap_setL H3.out.2.1 0 _
    refine hK.out _ _ ?_ (fun hH4 => ?_)
    · exact (set_other (fun e => HT.out.2 e)).trans hH3
    clear hK K hH3 z0 e0
    refine wpAnyH_done (by kernel_rfl) ?_ _
    go_wp2
    go_end0
    refine ⟨rfl, ⟨A4, c4, ?_, ?_, hpb, fun k hk => ?_⟩, H3.out.1.setCell (p := ⟨pb, 0, none⟩) hpb _, fun k hk => (set_other (HS.out k hk).1).trans (HK.out k hk).1⟩
    · rw [List.length_append]; exact hbox5
    · rw [List.length_append, i4L_append]
      exact own_set H3.out.2.2 (own_neP H3.out.2.2 H3.out.2.1)
    · rw [List.length_append]
      exact ⟨(HS.out k hk).1, (HK.out k hk).2.1, by simpa [World.setCell] using (HK.out k hk).2.2⟩
end Go.Proofs.Ytgpjiflgocgolaa
