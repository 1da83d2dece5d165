/-
  The program lays a decision out: a contract. Conditions: those that it names.
-/
import Derived.Test.YtgpjiflgocgolaaLowStr
import Derived.WalkMore
import Derived.ScopeJumps
import Derived.Laws.MakeOwn
namespace Go.Proofs.Ytgpjiflgocgolaa
open Go Go.RowKit
set_option linter.unusedSimpArgs false
set_option linter.unusedVariables false

theorem info_partsL {P : Program} {e : TypeId} {z : Value} {sz bytes : Nat} (h : (P.info? e).map (fun i => (i.zero, i.size, i.bytes)) = some (some z, sz, bytes)) : ∃ i, P.info? e = some i ∧ i.zero = some z ∧ i.size = sz ∧ i.bytes = bytes := by
  rcases hi : P.info? e with _ | i
  · rw [hi] at h; cases h
  · rw [hi] at h
    simp only [Option.map_some, Option.some.injEq, Prod.mk.injEq] at h
    exact ⟨i, rfl, h.1, h.2.1, h.2.2⟩
/-- make of a slice, where a region draws its order. -/
theorem oper_make {P : Program} {w : World} {o : Oper} {a : Act} {K : Act → World → Prop} {Q : Exit → Act → World → Prop} (l c : Operand) (t : TypeId) (hop : o.op = Op.makeSlice t l c)
    (e : TypeId) (z : Value) (sz bytes : Nat) (ht : P.underlying t = some (.slice e)) (hinfo : (P.info? e).map (fun i => (i.zero, i.size, i.bytes)) = some (some z, sz, bytes))
    (v : Value) (hzs : z.cells = (List.replicate sz v).toArray) (hsz : 0 < sz) (kl kc : IntKind) (n : Nat) (hl : a.eval l = .int kl (n : Int)) (hc : a.eval c = .int kc (n : Int)) (hn : bytes * n ≤ 281474976710656) (h63 : n ≤ 9223372036854775807)
    (h : ∀ w', w'.rowIs w.heap.size e (n * sz) (fun _ => v) → Below w.heap.size w w' → w'.heap.size = w.heap.size + 1 → K (a.put o.dst (.slice (some ⟨w.heap.size, 0, none⟩) n n)) w') : Oper.wp P o a w K Q := by
  obtain ⟨i, hi, hz, hsize, hby⟩ := info_partsL hinfo
  have hb : (i.bytes : Int) * (n : Int) ≤ 281474976710656 := by
    rw [hby]; have : ((bytes * n : Nat) : Int) ≤ 281474976710656 := by omega
    rwa [Int.natCast_mul] at this
  have hrun := run_make (P := P) w t e i z ht hi hz kl kc n n (by omega) (Int.le_refl _) hb (by omega)
  simp only [Int.toNat_natCast, hsize] at hrun
  have hr : (w.alloc (.cells (madeCells z.cells (n * sz)) e)).rowIs w.heap.size e (n * sz) (fun _ => v) := by
    have := World.rowIs_alloc w (madeCells z.cells (n * sz)) e (fun _ => v) (fun j hj => by
      rw [size_madeCells] at hj
      unfold madeCells
      rw [hzs]
      have : j % sz < sz := Nat.mod_lt _ hsz
      simp [hj, this])
    rwa [size_madeCells] at this
  unfold Oper.wp execOp
  simp only [hop, hl, hc, hrun, Sem.run_bind, Sem.run_pure, Result.andThen_ok]
  exact h _ hr (lboxL w _) (by simp)
theorem info_ways : (Try.prog.info? 99).map (fun i => (i.zero, i.size, i.bytes)) = some (some (.agg #[.bool false, .bool false]), 2, 2) := by kernel_rfl
theorem info_intL : (Try.prog.info? 3).map (fun i => (i.zero, i.size, i.bytes)) = some (some (.int .i64 0), 1, 8) := by kernel_rfl
/-- How many ways a layout in memory has. -/
def wayC : Option Value → Nat
  | some (.bool true) => 1
  | _ => 0
def cntW (W : World) (lb : Nat) : Nat → Nat
  | 0 => 0
  | i + 1 => cntW W lb i + (wayC (W.cell? ⟨lb, i * 2, none⟩) + wayC (W.cell? ⟨lb, i * 2 + 1, none⟩))
theorem cnt_lay {B : Nat} {W : World} {b : Nat} {A : Option Addr} {n cap : Nat} {nd : Nat → Nd} {lb fb : Nat} {lg : Ways} {ft : Nat → Nat} (h : LayAt B W b A n cap nd lb fb lg ft) : ∀ i, i ≤ n → cntW W lb i = cntN lg i
  | 0, _ => rfl
  | i + 1, hi => by
    obtain ⟨g0, g1⟩ := lay_long h (i := i) (by omega)
    rw [cntW, cntN, cnt_lay h i (by omega), g0, g1]
    unfold manyN
    cases (lg i).1 <;> cases (lg i).2 <;> rfl
def layMu (n : Nat) (a : Act) (W : World) : Nat := match a.tmps.getD 3 undef with
  | .pointer (some p) => (match W.cell? ⟨p.block, 1, none⟩ with
    | some (.slice (some l) _ _) => 2 * n - cntW W l.block n
    | _ => 0)
  | _ => 0
/-- What holds wherever the layout is begun anew. -/
def LayJ (W : World) (A : Option Addr) (n cap : Nat) (nd : Nat → Nd) (a : Act) (w' : World) : Prop := ∃ k b lb fb ft, k ≤ cntN (iterN nd n k) n ∧ ft 0 = 0 ∧ LayAt W.heap.size w' b A n cap nd lb fb (iterN nd n k) ft ∧ Below W.heap.size W w' ∧
  ∃ u4 u5 u6 u7 u8 u9 u10 u11 u12 u13 u14 u15 u16 u17 u18, a = { tmps := #[.slice A n cap, undef, .pointer none, .pointer (some ⟨b, 0, none⟩), u4, u5, u6, u7, u8, u9, u10, u11, u12, u13, u14, u15, u16, u17, u18], defers := [] }
theorem lay_mu {B : Nat} {W : World} {b : Nat} {A : Option Addr} {n cap : Nat} {nd : Nat → Nd} {lb fb : Nat} {lg : Ways} {ft : Nat → Nat} (h : LayAt B W b A n cap nd lb fb lg ft) (a : Act) (ha : a.tmps.getD 3 undef = .pointer (some ⟨b, 0, none⟩)) : layMu n a W = 2 * n - cntN lg n := by
  unfold layMu
  rw [ha]
  show (match W.cell? ⟨b, 1, none⟩ with | some (.slice (some l) _ _) => 2 * n - cntW W l.block n | _ => 0) = _
  rw [(lay_box h).2.1]
  show 2 * n - cntW W lb n = _
  rw [cnt_lay h n (Nat.le_refl _)]
theorem leaf_iter (nd : Nat → Nd) (n : Nat) (k i : Nat) (hl : (nd i).leaf = true) : iterN nd n k i = (false, false) := by
  cases k with
  | zero => rfl
  | succ k => exact if_neg (fun g => by rw [hl] at g; exact absurd g.2 (by decide))
/-- A layout anew: no way is long. -/
theorem lay_made {W V : World} {A : Option Addr} {n cap : Nat} {nd : Nat → Nd} {lb fb : Nat} (h : NdAt W A n nd) (hb : Below W.heap.size W V) (hl : V.rowIs lb 99 (n * 2) (fun _ => .bool false)) (hf : V.rowIs fb 3 (n + 1) (fun _ => .int .i64 0)) (hne : lb ≠ fb) (h1 : W.heap.size ≤ lb) (h2 : W.heap.size ≤ fb) :
    LayAt W.heap.size (V.alloc (layO A n cap lb fb)) V.heap.size A n cap nd lb fb (iterN nd n 0) (fun _ => 0) ∧ Below W.heap.size W (V.alloc (layO A n cap lb fb)) := by
  have hB : Below V.heap.size V (V.alloc (layO A n cap lb fb)) := lboxL V _
  have q1 := World.rowIs.lt hl
  have q2 := World.rowIs.lt hf
  have hB2 : Below W.heap.size W (V.alloc (layO A n cap lb fb)) := hb.trans (hB.mono hb.size)
  exact ⟨⟨World.alloc_heap_new V _, h.below hB2, fun ab ao e hn => by
    obtain ⟨b, o, e2, hlt, _⟩ := h.2 hn
    rw [e] at e2; injection e2 with e2; injection e2 with e2; omega, ⟨_, row_below hl hB, fun i _ => ⟨rfl, rfl⟩⟩, ⟨_, row_below hf hB, fun i _ => rfl⟩, ⟨hb.size, h1, h2, hne, by omega, by omega⟩⟩, hB2⟩
set_option maxHeartbeats 8000000 in
set_option maxRecDepth 100000 in
theorem p_layOut {W : World} {A : Option Addr} {n cap : Nat} {nd : Nat → Nd} (h : NdAt W A n nd) (hv : ValN nd n) :
    Calls Try.prog 13 #[.slice A n cap] W fun e w' => ∃ b lb fb, e = .returned (.pointer (some ⟨b, 0, none⟩)) ∧ LayAt W.heap.size w' b A n cap nd lb fb (longN nd n) (firstN nd (longN nd n)) ∧ Below W.heap.size W w' := by
  have hn := hv.le
  have HV := Lib.hid (And.intro h hv)
  clear h hv
  go_enter Try.func13, Try.ntmps13
  go_wp2
  refine wp_scope_jumps 0 (LayJ W A n cap nd) (layMu n) rfl ?_ ?_
  · go_upto_region 1 with fail
    rename_i K9 hK9
    have hw : IntKind.i64.wrap ((n : Int) + 1) = ((n + 1 : Nat) : Int) := by rw [IntWalk.i64_in _ (by omega)]; omega
    refine wp_region_held_drew (S := fun _ => True) (by kernel_rfl) trivial (fun hHeld => ?_)
    have HB0 : Hid (Below W.heap.size W W.drew) := Lib.hid (below_drawn (Below.refl _ _) 1)
    generalize W.drew = Y at HB0 hHeld ⊢
    refine wpAnyH_take (i := 0) (v := ?_) rfl (by kernel_rfl) (by kernel_rfl) (by kernel_rfl) (fun _ _ _ h => h) (Or.inl ⟨by rfl, ?_⟩) (by assumption) ?_
    rotate_left
    · intro wS hSw
      (skip)
      go_simp
      all_goals with_reducible rfl
    (try simp only [List.getElem_toArray, List.getElem_cons_zero, List.getElem_cons_succ, Act.put, List.setIfInBounds_toArray, List.set_cons_zero, List.set_cons_succ])
    refine wpAnyH_take (i := 1) (v := ?_) rfl (by kernel_rfl) (by kernel_rfl) (by kernel_rfl) (fun _ _ _ h => h) (Or.inl ⟨by rfl, ?_⟩) (by assumption) ?_
    rotate_left
    · intro wS hSw
      (skip)
      go_simp
      all_goals with_reducible rfl
    (try simp only [List.getElem_toArray, List.getElem_cons_zero, List.getElem_cons_succ, Act.put, List.setIfInBounds_toArray, List.set_cons_zero, List.set_cons_succ])
    refine wpAnyH_take (i := 2) (v := ?_) rfl (by kernel_rfl) (by kernel_rfl) (by kernel_rfl) (fun _ _ _ h => h) (Or.inl ⟨by rfl, ?_⟩) (by assumption) ?_
    rotate_left
    · intro wS hSw
      (skip)
      go_simp
      all_goals with_reducible rfl
    (try simp only [List.getElem_toArray, List.getElem_cons_zero, List.getElem_cons_succ, Act.put, List.setIfInBounds_toArray, List.set_cons_zero, List.set_cons_succ])
    refine wpAnyH_take (i := 4) (v := ?_) rfl (by kernel_rfl) (by kernel_rfl) (by kernel_rfl) (fun _ _ _ h => h) (Or.inl ⟨by rfl, ?_⟩) (by assumption) ?_
    rotate_left
    · intro wS hSw
      (skip)
      go_simp
      all_goals with_reducible rfl
    (try simp only [List.getElem_toArray, List.getElem_cons_zero, List.getElem_cons_succ, Act.put, List.setIfInBounds_toArray, List.set_cons_zero, List.set_cons_succ])
    refine wpAnyH_take (i := 5) (v := ?_) rfl (by kernel_rfl) (by kernel_rfl) (by kernel_rfl) (fun _ _ _ h => h) (Or.inl ⟨by rfl, ?_⟩) (by assumption) ?_
    rotate_left
    · intro wS hSw
      (skip)
      go_simp
      all_goals with_reducible rfl
    (try simp only [List.getElem_toArray, List.getElem_cons_zero, List.getElem_cons_succ, Act.put, List.setIfInBounds_toArray, List.set_cons_zero, List.set_cons_succ])
    refine wpAnyH_take (i := 6) (v := ?_) rfl (by kernel_rfl) (by kernel_rfl) (by kernel_rfl) (fun _ _ _ h => h) (Or.inl ⟨by rfl, ?_⟩) (by assumption) ?_
    rotate_left
    · intro wS hSw
      (skip)
      go_simp
      all_goals with_reducible rfl
    (try simp only [List.getElem_toArray, List.getElem_cons_zero, List.getElem_cons_succ, Act.put, List.setIfInBounds_toArray, List.set_cons_zero, List.set_cons_succ])
    refine wpAnyH_ready (rs := [3, 7]) (by kernel_rfl) (by simp) (AllReadyH.cons rfl (fun K hK => ?_) (AllReadyH.cons rfl (fun K hK => ?_) AllReadyH.nil))
    · refine oper_make _ _ _ rfl 99 _ 2 2 (by kernel_rfl) info_ways (.bool false) rfl (by decide) .i64 .i64 n rfl rfl (by omega) (by omega) (fun w1 hr1 hb1 hs1 => ?_)
      have H1 := Lib.hid (And.intro hr1 (And.intro (HB0.out.trans (hb1.mono HB0.out.size)) (And.intro hs1 HB0.out.size)))
      generalize Y.heap.size = lb at H1 ⊢
      clear hr1 hb1 hs1 HB0
      refine hK.out _ _ trivial (fun hH2 => ?_)
      clear hK K hHeld
      (try simp only [Act.put, List.setIfInBounds_toArray, List.set_cons_zero, List.set_cons_succ, List.getElem_toArray, List.getElem_cons_zero, List.getElem_cons_succ])
      refine held_one (i := 7) (by kernel_rfl) rfl (fun K hK => ?_)
      refine oper_make _ _ _ rfl 3 _ 1 8 (by kernel_rfl) info_intL (.int .i64 0) rfl (by decide) .i64 .i64 (n + 1) rfl rfl (by omega) (by omega) (fun w2 hr2 hb2 hs2 => ?_)
      have H2 : Hid (LayAt W.heap.size (w2.alloc (layO A n cap lb w1.heap.size)) w2.heap.size A n cap nd lb w1.heap.size (iterN nd n 0) (fun _ => 0) ∧ Below W.heap.size W (w2.alloc (layO A n cap lb w1.heap.size))) := Lib.hid (lay_made HV.out.1 (H1.out.2.1.trans (hb2.mono H1.out.2.1.size)) (row_below H1.out.1 hb2) (by rw [Nat.mul_one] at hr2; exact hr2) (by have := H1.out.2.2.1; omega) H1.out.2.2.2 (by have := H1.out.2.1.size; omega))
      generalize w1.heap.size = fb at H2 ⊢
      clear hr2 hb2 hs2 H1
      refine hK.out _ _ trivial (fun hH3 => ?_)
      clear hK K hH2
      (try simp only [Act.put, List.setIfInBounds_toArray, List.set_cons_zero, List.set_cons_succ, List.getElem_toArray, List.getElem_cons_zero, List.getElem_cons_succ])
      refine wpAnyH_take (i := 8) (v := ?_) rfl (by kernel_rfl) (by kernel_rfl) (by kernel_rfl) (fun _ _ _ h => h) (Or.inl ⟨by rfl, ?_⟩) (by assumption) ?_
      rotate_left
      · intro wS hSw
        (skip)
        go_simp
        all_goals with_reducible rfl
      (try simp only [List.getElem_toArray, List.getElem_cons_zero, List.getElem_cons_succ, Act.put, List.setIfInBounds_toArray, List.set_cons_zero, List.set_cons_succ])
      refine held_one (i := 9) (by kernel_rfl) rfl (fun K hK => ?_)
      go_simp
      refine hK.out _ _ trivial (fun hH4 => ?_)
      clear hK K hH3
      refine wpAnyH_take (i := 10) (v := ?_) rfl (by kernel_rfl) (by kernel_rfl) (by kernel_rfl) (fun _ _ _ h => h) (Or.inl ⟨by rfl, ?_⟩) (by assumption) ?_
      rotate_left
      · intro wS hSw
        (skip)
        go_simp
        all_goals with_reducible rfl
      (try simp only [List.getElem_toArray, List.getElem_cons_zero, List.getElem_cons_succ, Act.put, List.setIfInBounds_toArray, List.set_cons_zero, List.set_cons_succ])
      refine wpAnyH_done (by kernel_rfl) ?_ _
      unfold layO at H2
      generalize w2.alloc _ = w' at H2 ⊢
      generalize w2.heap.size = b at H2 ⊢
      clear hH4 hw
      have HL0 : Hid (∃ k, ∃ ft : Nat → Nat, LayAt W.heap.size w' b A n cap nd lb fb (iterN nd n k) ft ∧ Below W.heap.size W w' ∧ ft 0 = 0 ∧ k ≤ cntN (iterN nd n k) n) := Lib.hid ⟨0, _, H2.out.1, H2.out.2, rfl, Nat.zero_le _⟩
      clear H2
      obtain ⟨k, ft, HL1⟩ := HL0.out
      have HL := Lib.hid HL1
      clear HL0 HL1
      refine hK9 _ _ (wp_seq (wp_label ?_))
      show Code.wp _ _ _ _ _
      go_wp2_with (first
        | (go_at_call 27; (with_reducible refine (p_place HL.out.1 HL.out.2.1.size hn HL.out.2.2.1).mono ?_); rintro e w1 ⟨rfl, hl1, hb1⟩; have H1 := Lib.hid (And.intro hl1 (HL.out.2.1.trans hb1)); clear hl1 hb1)
        | (go_at_call 28; (with_reducible refine (p_stretch H1.out.1 H1.out.2.size HV.out.2 (fun i _ hl => leaf_iter nd n k i hl)).mono ?_); rintro e w2 ⟨c, rfl, hc, hl2, hb2⟩; have H2 := Lib.hid (And.intro hc (And.intro hl2 (H1.out.2.trans hb2))); clear hc hl2 hb2))
      · rename_i hcc
        go_step3
        have hm := iter_more HV.out.2 k (H2.out.1.1 hcc)
        have hk2 := HL.out.2.2.2
        have hc2 := cnt_le (iterN nd n (k + 1)) n
        refine ⟨rfl, ⟨k + 1, b, lb, fb, _, by omega, ?_, H2.out.2.1, H2.out.2.2, _, _, _, _, _, _, _, _, _, _, _, _, _, _, _, rfl⟩⟩
        rfl
      · rename_i hcc
        simp only [Exit.jump]
        go_ret
        have hs : ∀ i, i < n → iterN nd n (k + 1) i = iterN nd n k i := fun i hi => Decidable.byContradiction fun g => by
          have := H2.out.1.2 ⟨i, hi, g⟩
          rw [hcc] at this; exact absurd this (by decide)
        have hk2 := HL.out.2.2.2
        have hc2 := cnt_le (iterN nd n k) n
        have hl := long_is (nd := nd) (n := n) (k := k) (by omega) hs
        refine ⟨b, lb, fb, rfl, ?_, H2.out.2.2⟩
        have h3 := H2.out.2.1
        rw [hl] at h3
        exact h3.ways (fun i hi => by have := hs i hi; rw [hl] at this; rw [← this]; show stepN nd n (longN nd n) i = stepN nd n (iterN nd n k) i; rw [hl])
    · refine oper_make _ _ _ rfl 3 _ 1 8 (by kernel_rfl) info_intL (.int .i64 0) rfl (by decide) .i64 .i64 (n + 1) rfl rfl (by omega) (by omega) (fun w1 hr1 hb1 hs1 => ?_)
      have H1 := Lib.hid (And.intro hr1 (And.intro (HB0.out.trans (hb1.mono HB0.out.size)) (And.intro hs1 HB0.out.size)))
      generalize Y.heap.size = fb at H1 ⊢
      clear hr1 hb1 hs1 HB0
      refine hK.out _ _ trivial (fun hH2 => ?_)
      clear hK K hHeld
      (try simp only [Act.put, List.setIfInBounds_toArray, List.set_cons_zero, List.set_cons_succ, List.getElem_toArray, List.getElem_cons_zero, List.getElem_cons_succ])
      refine held_one (i := 3) (by kernel_rfl) rfl (fun K hK => ?_)
      refine oper_make _ _ _ rfl 99 _ 2 2 (by kernel_rfl) info_ways (.bool false) rfl (by decide) .i64 .i64 n rfl rfl (by omega) (by omega) (fun w2 hr2 hb2 hs2 => ?_)
      have H2 : Hid (LayAt W.heap.size (w2.alloc (layO A n cap w1.heap.size fb)) w2.heap.size A n cap nd w1.heap.size fb (iterN nd n 0) (fun _ => 0) ∧ Below W.heap.size W (w2.alloc (layO A n cap w1.heap.size fb))) := Lib.hid (lay_made HV.out.1 (H1.out.2.1.trans (hb2.mono H1.out.2.1.size)) hr2 (by have := H1.out.1; rw [Nat.mul_one] at this; exact row_below this hb2) (by have := H1.out.2.2.1; omega) (by have := H1.out.2.1.size; omega) H1.out.2.2.2)
      generalize w1.heap.size = lb at H2 ⊢
      clear hr2 hb2 hs2 H1
      refine hK.out _ _ trivial (fun hH3 => ?_)
      clear hK K hH2
      (try simp only [Act.put, List.setIfInBounds_toArray, List.set_cons_zero, List.set_cons_succ, List.getElem_toArray, List.getElem_cons_zero, List.getElem_cons_succ])
      refine wpAnyH_take (i := 8) (v := ?_) rfl (by kernel_rfl) (by kernel_rfl) (by kernel_rfl) (fun _ _ _ h => h) (Or.inl ⟨by rfl, ?_⟩) (by assumption) ?_
      rotate_left
      · intro wS hSw
        (skip)
        go_simp
        all_goals with_reducible rfl
      (try simp only [List.getElem_toArray, List.getElem_cons_zero, List.getElem_cons_succ, Act.put, List.setIfInBounds_toArray, List.set_cons_zero, List.set_cons_succ])
      refine held_one (i := 9) (by kernel_rfl) rfl (fun K hK => ?_)
      go_simp
      refine hK.out _ _ trivial (fun hH4 => ?_)
      clear hK K hH3
      refine wpAnyH_take (i := 10) (v := ?_) rfl (by kernel_rfl) (by kernel_rfl) (by kernel_rfl) (fun _ _ _ h => h) (Or.inl ⟨by rfl, ?_⟩) (by assumption) ?_
      rotate_left
      · intro wS hSw
        (skip)
        go_simp
        all_goals with_reducible rfl
      (try simp only [List.getElem_toArray, List.getElem_cons_zero, List.getElem_cons_succ, Act.put, List.setIfInBounds_toArray, List.set_cons_zero, List.set_cons_succ])
      refine wpAnyH_done (by kernel_rfl) ?_ _
      unfold layO at H2
      generalize w2.alloc _ = w' at H2 ⊢
      generalize w2.heap.size = b at H2 ⊢
      clear hH4 hw
      have HL0 : Hid (∃ k, ∃ ft : Nat → Nat, LayAt W.heap.size w' b A n cap nd lb fb (iterN nd n k) ft ∧ Below W.heap.size W w' ∧ ft 0 = 0 ∧ k ≤ cntN (iterN nd n k) n) := Lib.hid ⟨0, _, H2.out.1, H2.out.2, rfl, Nat.zero_le _⟩
      clear H2
      obtain ⟨k, ft, HL1⟩ := HL0.out
      have HL := Lib.hid HL1
      clear HL0 HL1
      refine hK9 _ _ (wp_seq (wp_label ?_))
      show Code.wp _ _ _ _ _
      go_wp2_with (first
        | (go_at_call 27; (with_reducible refine (p_place HL.out.1 HL.out.2.1.size hn HL.out.2.2.1).mono ?_); rintro e w1 ⟨rfl, hl1, hb1⟩; have H1 := Lib.hid (And.intro hl1 (HL.out.2.1.trans hb1)); clear hl1 hb1)
        | (go_at_call 28; (with_reducible refine (p_stretch H1.out.1 H1.out.2.size HV.out.2 (fun i _ hl => leaf_iter nd n k i hl)).mono ?_); rintro e w2 ⟨c, rfl, hc, hl2, hb2⟩; have H2 := Lib.hid (And.intro hc (And.intro hl2 (H1.out.2.trans hb2))); clear hc hl2 hb2))
      · rename_i hcc
        go_step3
        have hm := iter_more HV.out.2 k (H2.out.1.1 hcc)
        have hk2 := HL.out.2.2.2
        have hc2 := cnt_le (iterN nd n (k + 1)) n
        refine ⟨rfl, ⟨k + 1, b, lb, fb, _, by omega, ?_, H2.out.2.1, H2.out.2.2, _, _, _, _, _, _, _, _, _, _, _, _, _, _, _, rfl⟩⟩
        rfl
      · rename_i hcc
        simp only [Exit.jump]
        go_ret
        have hs : ∀ i, i < n → iterN nd n (k + 1) i = iterN nd n k i := fun i hi => Decidable.byContradiction fun g => by
          have := H2.out.1.2 ⟨i, hi, g⟩
          rw [hcc] at this; exact absurd this (by decide)
        have hk2 := HL.out.2.2.2
        have hc2 := cnt_le (iterN nd n k) n
        have hl := long_is (nd := nd) (n := n) (k := k) (by omega) hs
        refine ⟨b, lb, fb, rfl, ?_, H2.out.2.2⟩
        have h3 := H2.out.2.1
        rw [hl] at h3
        exact h3.ways (fun i hi => by have := hs i hi; rw [hl] at this; rw [← this]; show stepN nd n (longN nd n) i = stepN nd n (iterN nd n k) i; rw [hl])
  · rintro a' w' ⟨k, b, lb, fb, ft, hk, h0, hl, hb, u4, u5, u6, u7, u8, u9, u10, u11, u12, u13, u14, u15, u16, u17, u18, rfl⟩
    have HL := Lib.hid (And.intro hl (And.intro hb (And.intro h0 hk)))
    clear hl hb h0 hk
    go_wp2_with (first
      | (go_at_call 27; (with_reducible refine (p_place HL.out.1 HL.out.2.1.size hn HL.out.2.2.1).mono ?_); rintro e w1 ⟨rfl, hl1, hb1⟩; have H1 := Lib.hid (And.intro hl1 (HL.out.2.1.trans hb1)); clear hl1 hb1)
      | (go_at_call 28; (with_reducible refine (p_stretch H1.out.1 H1.out.2.size HV.out.2 (fun i _ hl => leaf_iter nd n k i hl)).mono ?_); rintro e w2 ⟨c, rfl, hc, hl2, hb2⟩; have H2 := Lib.hid (And.intro hc (And.intro hl2 (H1.out.2.trans hb2))); clear hc hl2 hb2))
    · rename_i hcc
      go_step3
      have hm := iter_more HV.out.2 k (H2.out.1.1 hcc)
      have hk2 := HL.out.2.2.2
      have hc2 := cnt_le (iterN nd n (k + 1)) n
      refine ⟨rfl, ⟨k + 1, b, lb, fb, _, by omega, ?_, H2.out.2.1, H2.out.2.2, _, _, _, _, _, _, _, _, _, _, _, _, _, _, _, rfl⟩, ?_⟩
      · rfl
      · rw [lay_mu H2.out.2.1 _ rfl, lay_mu HL.out.1 _ rfl]
        have : cntN (stepN nd n (iterN nd n k)) n = cntN (iterN nd n (k + 1)) n := rfl
        omega
    · rename_i hcc
      simp only [Exit.jump]
      go_ret
      have hs : ∀ i, i < n → iterN nd n (k + 1) i = iterN nd n k i := fun i hi => Decidable.byContradiction fun g => by
        have := H2.out.1.2 ⟨i, hi, g⟩
        rw [hcc] at this; exact absurd this (by decide)
      have hk2 := HL.out.2.2.2
      have hc2 := cnt_le (iterN nd n k) n
      have hl := long_is (nd := nd) (n := n) (k := k) (by omega) hs
      refine ⟨b, lb, fb, rfl, ?_, H2.out.2.2⟩
      have h3 := H2.out.2.1
      rw [hl] at h3
      exact h3.ways (fun i hi => by have := hs i hi; rw [hl] at this; rw [← this]; show stepN nd n (longN nd n) i = stepN nd n (iterN nd n k) i; rw [hl])
end Go.Proofs.Ytgpjiflgocgolaa
