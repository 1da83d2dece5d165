/-
  The decision's Run: contracts. Conditions: those that each names.
-/
import Derived.Test.YtgpjiflgocgolaaLowMem
import Derived.Test.YtgpjiflgocgolaaLowSim
import Derived.Test.YtgpjiflgocgolaaMemory
import Derived.Test.YtgpjiflgocgolaaRegion
import Derived.OwnWalk
import Derived.Deep.Cut
import Derived.RangeFuncRecord
namespace Go.Proofs.Ytgpjiflgocgolaa
open Go Go.RowKit
set_option linter.unusedSimpArgs false
set_option linter.unusedVariables false

theorem cellD {W : World} {B : Nat} {c : Array Value} {t : TypeId} (h : W.heap[B]? = some (.cells c t (0, 0))) (i : Nat) {v : Value} (hv : c[i]? = some v) : W.cell? ⟨B, i, none⟩ = some v := by
  unfold World.cell?; rw [h]; exact hv
theorem rowIs_congrD {w : World} {b : Nat} {e : TypeId} {n : Nat} {F G : Nat → Value} (h : w.rowIs b e n F) (hc : ∀ j, j < n → F j = G j) : w.rowIs b e n G := by
  obtain ⟨cur, hg, hs, hF⟩ := h
  exact ⟨cur, hg, hs, fun j hj => by rw [hF j hj, hc j hj]⟩
/-- Does a word, masked, say so? -/
def soN (x : Nd) (a : BitVec 32) : Bool := saysN (if x.op = 1 then 16 else if x.op = 2 then 32 else if x.op = 3 then 48 else 64) a (BitVec.ofNat 32 x.k)
theorem p_isSo (x : Nd) (hk : x.k < 4294967296) (a : BitVec 32) (w : World) : Calls Try.prog 43 #[ndV x, .int .u32 (a.toNat : Int)] w fun e w' => e = .returned (.bool (soN x a)) ∧ Below w.heap.size w w' := by
  have HB := Lib.hid (fun o => lboxL w o)
  obtain ⟨leaf, word, off, mask, op, k, t, f⟩ := x
  obtain ⟨kb, hkb⟩ : ∃ kb : BitVec 32, k = kb.toNat := ⟨BitVec.ofNat 32 k, by rw [BitVec.toNat_ofNat, Nat.mod_eq_of_lt hk]⟩
  subst hkb
  have hko : BitVec.ofNat 32 kb.toNat = kb := by simp
  unfold soN
  dsimp only
  rw [hko]
  have h32 := and32 a kb
  have e32 := eq32 a kb
  clear hk hko
  by_cases h1 : op = 1
  · subst h1
    rw [if_pos rfl]
    go_enter Try.func43, Try.ntmps43
    go_wp2
    go_ret
    exact ⟨rfl, HB.out _⟩
  have h1b : (op == 1) = false := beq_false_of_ne h1
  rw [if_neg h1]
  by_cases h2 : op = 2
  · subst h2
    rw [if_pos rfl]
    go_enter Try.func43, Try.ntmps43
    go_wp2
    go_ret
    exact ⟨rfl, HB.out _⟩
  have h2b : (op == 2) = false := beq_false_of_ne h2
  rw [if_neg h2]
  by_cases h3 : op = 3
  · subst h3
    rw [if_pos rfl]
    go_enter Try.func43, Try.ntmps43
    go_wp2
    go_ret
    exact ⟨rfl, HB.out _⟩
  have h3b : (op == 3) = false := beq_false_of_ne h3
  rw [if_neg h3]
  clear h1 h2 h3
  have hz : ((((a &&& kb).toNat : Nat) : Int) != 0) = (a &&& kb != 0#32) := by
    have := eq32 (a &&& kb) 0#32
    rw [bne, bne, ← this]; rfl
  generalize hq : a &&& kb = ab at h32 hz
  go_enter Try.func43, Try.ntmps43
  go_wp2
  go_ret
  exact ⟨by subst hq; rfl, HB.out _⟩
/-- The decision's words in memory. -/
def WdAt (W : World) (b : Nat) (v : Nat → BitVec 32) : Prop := W.rowIs b 60 16 (fun p => .int .u32 ((v p).toNat : Int))
set_option maxHeartbeats 1000000 in
theorem p_wlay {w : World} {b : Nat} {v : Nat → BitVec 32} (h : WdAt w b v) {p : Nat} (hp : p + 1 < 16) (z : Nat) (hz : z < 18446744073709551616) :
    Calls Try.prog 41 #[.pointer (some ⟨b, 0, none⟩), .int .i64 ((4 * p : Nat) : Int), .int .u64 (z : Int)] w fun e w' => e = .returned (.tuple #[]) ∧ WdAt w' b (fun j => if j = p + 1 then BitVec.ofNat 32 (z / 4294967296) else if j = p then BitVec.ofNat 32 z else v j) ∧ w.grownBy w' (some b) := by
  have hq : ((4 * p : Nat) : Int).tdiv 4 = (p : Int) := by
    rw [Int.tdiv_eq_ediv_of_nonneg (by omega)]; omega
  have H := Lib.hid h
  have hw1 : IntKind.i64.wrap ((p : Int) + 1) = ((p + 1 : Nat) : Int) := by rw [IntWalk.i64_in _ (by omega)]; omega
  have hw0 : IntKind.i64.wrap (p : Int) = (p : Int) := IntWalk.i64_in _ (by omega)
  have hl : IntKind.u32.wrap (z : Int) = ((BitVec.ofNat 32 z).toNat : Int) := by rw [wrap32_nat, BitVec.toNat_ofNat]
  have hh : IntKind.u32.wrap ((z : Int) / 4294967296) = ((BitVec.ofNat 32 (z / 4294967296)).toNat : Int) := by
    rw [show (z : Int) / 4294967296 = ((z / 4294967296 : Nat) : Int) by omega, wrap32_nat, BitVec.toNat_ofNat]
  generalize BitVec.ofNat 32 z = zl at hl ⊢
  generalize BitVec.ofNat 32 (z / 4294967296) = zh at hh ⊢
  have hp0 : (p : Int) < 16 := by omega
  have hp1 : (p : Int) + 1 < 16 := by omega
  have hge1 : (0 : Int) ≤ (p : Int) + 1 := by omega
  clear h
  go_enter Try.func41, Try.ntmps41
  go_upto_region 0 with fail
  refine wp_region_held_drew (S := fun _ => True) (by kernel_rfl) trivial (fun hHeld => ?_)
  have H0 : Hid (WdAt w.drew b v ∧ w.grownBy w.drew (some b)) := Lib.hid ⟨H.out, grown_drawn (World.grownBy.refl w _) 1⟩
  generalize w.drew = Y at H0 hHeld ⊢
  refine wpAnyH_take (i := 0) (v := ?_) rfl (by kernel_rfl) (by kernel_rfl) (by kernel_rfl) (fun _ _ _ h => h) (Or.inl ⟨by rfl, ?_⟩) (by assumption) ?_
  rotate_left
  · intro wS hSw
    (skip)
    go_simp
    all_goals with_reducible rfl
  (try simp only [List.getElem_toArray, List.getElem_cons_zero, List.getElem_cons_succ, Act.put, List.setIfInBounds_toArray, List.set_cons_zero, List.set_cons_succ])
  refine wpAnyH_take (i := 1) (v := ?_) rfl (by kernel_rfl) (by kernel_rfl) (by kernel_rfl) (fun _ _ _ h => h) (Or.inl ⟨by rfl, ?_⟩) (by assumption) ?_
  rotate_left
  · intro wS hSw
    (skip)
    go_simp
    all_goals with_reducible rfl
  (try simp only [List.getElem_toArray, List.getElem_cons_zero, List.getElem_cons_succ, Act.put, List.setIfInBounds_toArray, List.set_cons_zero, List.set_cons_succ])
  refine wpAnyH_take (i := 2) (v := ?_) rfl (by kernel_rfl) (by kernel_rfl) (by kernel_rfl) (fun _ _ _ h => h) (Or.inl ⟨by rfl, ?_⟩) (by assumption) ?_
  rotate_left
  · intro wS hSw
    (skip)
    go_simp
    all_goals with_reducible rfl
  (try simp only [List.getElem_toArray, List.getElem_cons_zero, List.getElem_cons_succ, Act.put, List.setIfInBounds_toArray, List.set_cons_zero, List.set_cons_succ])
  refine wpAnyH_take (i := 3) (v := ?_) rfl (by kernel_rfl) (by kernel_rfl) (by kernel_rfl) (fun _ _ _ h => h) (Or.inl ⟨by rfl, ?_⟩) (by assumption) ?_
  rotate_left
  · intro wS hSw
    (skip)
    go_simp
    all_goals with_reducible rfl
  (try simp only [List.getElem_toArray, List.getElem_cons_zero, List.getElem_cons_succ, Act.put, List.setIfInBounds_toArray, List.set_cons_zero, List.set_cons_succ])
  refine wpAnyH_take (i := 4) (v := ?_) rfl (by kernel_rfl) (by kernel_rfl) (by kernel_rfl) (fun _ _ _ h => h) (Or.inl ⟨by rfl, ?_⟩) (by assumption) ?_
  rotate_left
  · intro wS hSw
    (skip)
    go_simp
    all_goals with_reducible rfl
  (try simp only [List.getElem_toArray, List.getElem_cons_zero, List.getElem_cons_succ, Act.put, List.setIfInBounds_toArray, List.set_cons_zero, List.set_cons_succ])
  refine wpAnyH_take (i := 5) (v := ?_) rfl (by kernel_rfl) (by kernel_rfl) (by kernel_rfl) (fun _ _ _ h => h) (Or.inl ⟨by rfl, ?_⟩) (by assumption) ?_
  rotate_left
  · intro wS hSw
    (skip)
    go_simp
    all_goals with_reducible rfl
  (try simp only [List.getElem_toArray, List.getElem_cons_zero, List.getElem_cons_succ, Act.put, List.setIfInBounds_toArray, List.set_cons_zero, List.set_cons_succ])
  refine wpAnyH_take (i := 6) (v := ?_) rfl (by kernel_rfl) (by kernel_rfl) (by kernel_rfl) (fun _ _ _ h => h) (Or.inl ⟨by rfl, ?_⟩) (by assumption) ?_
  rotate_left
  · intro wS hSw
    (skip)
    go_simp
    all_goals with_reducible rfl
  (try simp only [List.getElem_toArray, List.getElem_cons_zero, List.getElem_cons_succ, Act.put, List.setIfInBounds_toArray, List.set_cons_zero, List.set_cons_succ])
  refine wpAnyH_take (i := 7) (v := ?_) rfl (by kernel_rfl) (by kernel_rfl) (by kernel_rfl) (fun _ _ _ h => h) (Or.inl ⟨by rfl, ?_⟩) (by assumption) ?_
  rotate_left
  · intro wS hSw
    (skip)
    go_simp
    all_goals with_reducible rfl
  (try simp only [List.getElem_toArray, List.getElem_cons_zero, List.getElem_cons_succ, Act.put, List.setIfInBounds_toArray, List.set_cons_zero, List.set_cons_succ])
  refine wpAnyH_take (i := 8) (v := ?_) rfl (by kernel_rfl) (by kernel_rfl) (by kernel_rfl) (fun _ _ _ h => h) (Or.inl ⟨by rfl, ?_⟩) (by assumption) ?_
  rotate_left
  · intro wS hSw
    (skip)
    go_simp
    all_goals with_reducible rfl
  (try simp only [List.getElem_toArray, List.getElem_cons_zero, List.getElem_cons_succ, Act.put, List.setIfInBounds_toArray, List.set_cons_zero, List.set_cons_succ])
  refine wpAnyH_take (i := 9) (v := ?_) rfl (by kernel_rfl) (by kernel_rfl) (by kernel_rfl) (fun _ _ _ h => h) (Or.inl ⟨by rfl, ?_⟩) (by assumption) ?_
  rotate_left
  · intro wS hSw
    (skip)
    go_simp
    all_goals with_reducible rfl
  (try simp only [List.getElem_toArray, List.getElem_cons_zero, List.getElem_cons_succ, Act.put, List.setIfInBounds_toArray, List.set_cons_zero, List.set_cons_succ])
  refine wpAnyH_take (i := 10) (v := ?_) rfl (by kernel_rfl) (by kernel_rfl) (by kernel_rfl) (fun _ _ _ h => h) (Or.inl ⟨by rfl, ?_⟩) (by assumption) ?_
  rotate_left
  · intro wS hSw
    (skip)
    go_simp
    all_goals with_reducible rfl
  (try simp only [List.getElem_toArray, List.getElem_cons_zero, List.getElem_cons_succ, Act.put, List.setIfInBounds_toArray, List.set_cons_zero, List.set_cons_succ])
  refine wpAnyH_take (i := 11) (v := ?_) rfl (by kernel_rfl) (by kernel_rfl) (by kernel_rfl) (fun _ _ _ h => h) (Or.inl ⟨by rfl, ?_⟩) (by assumption) ?_
  rotate_left
  · intro wS hSw
    (skip)
    go_simp
    all_goals with_reducible rfl
  (try simp only [List.getElem_toArray, List.getElem_cons_zero, List.getElem_cons_succ, Act.put, List.setIfInBounds_toArray, List.set_cons_zero, List.set_cons_succ])
  refine wpAnyH_take (i := 12) (v := ?_) rfl (by kernel_rfl) (by kernel_rfl) (by kernel_rfl) (fun _ _ _ h => h) (Or.inl ⟨by rfl, ?_⟩) (by assumption) ?_
  rotate_left
  · intro wS hSw
    (skip)
    go_simp
    all_goals with_reducible rfl
  (try simp only [List.getElem_toArray, List.getElem_cons_zero, List.getElem_cons_succ, Act.put, List.setIfInBounds_toArray, List.set_cons_zero, List.set_cons_succ])
  refine wpAnyH_take (i := 13) (v := ?_) rfl (by kernel_rfl) (by kernel_rfl) (by kernel_rfl) (fun _ _ _ h => h) (Or.inl ⟨by rfl, ?_⟩) (by assumption) ?_
  rotate_left
  · intro wS hSw
    (skip)
    go_simp
    all_goals with_reducible rfl
  (try simp only [List.getElem_toArray, List.getElem_cons_zero, List.getElem_cons_succ, Act.put, List.setIfInBounds_toArray, List.set_cons_zero, List.set_cons_succ])
  refine wpAnyH_take (i := 15) (v := ?_) rfl (by kernel_rfl) (by kernel_rfl) (by kernel_rfl) (fun _ _ _ h => h) (Or.inl ⟨by rfl, ?_⟩) (by assumption) ?_
  rotate_left
  · intro wS hSw
    (skip)
    go_simp
    all_goals with_reducible rfl
  (try simp only [List.getElem_toArray, List.getElem_cons_zero, List.getElem_cons_succ, Act.put, List.setIfInBounds_toArray, List.set_cons_zero, List.set_cons_succ])
  have c0 := World.rowIs.cell H0.out.1 (i := p) (by omega)
  have z0 := World.rowIs.frozen H0.out.1 p
  refine held_one (i := 14) (by kernel_rfl) rfl (fun K hK => ?_)
  go_simp
  have H1 : Hid (WdAt (Y.setCell ⟨b, p, none⟩ (.int .u32 (zl.toNat : Int))) b (fun j => if j = p then zl else v j) ∧ w.grownBy (Y.setCell ⟨b, p, none⟩ (.int .u32 (zl.toNat : Int))) (some b)) := Lib.hid ⟨by
    have := World.rowIs.set H0.out.1 p (.int .u32 (zl.toNat : Int))
    refine rowIs_congrD this (fun j hj => ?_)
    by_cases e : j = p
    · simp [e]
    · simp [e], grown_set H0.out.2 p _⟩
  refine hK.out _ _ trivial (fun hH2 => ?_)
  clear hK K hHeld c0 z0 H0
  (try simp only [Act.put, List.setIfInBounds_toArray, List.set_cons_zero, List.set_cons_succ, List.getElem_toArray, List.getElem_cons_zero, List.getElem_cons_succ])
  refine wpAnyH_take (i := 16) (v := ?_) rfl (by kernel_rfl) (by kernel_rfl) (by kernel_rfl) (fun _ _ _ h => h) (Or.inl ⟨by rfl, ?_⟩) (by assumption) ?_
  rotate_left
  · intro wS hSw
    (skip)
    go_simp
    all_goals with_reducible rfl
  (try simp only [List.getElem_toArray, List.getElem_cons_zero, List.getElem_cons_succ, Act.put, List.setIfInBounds_toArray, List.set_cons_zero, List.set_cons_succ])
  generalize Y.setCell _ _ = Z at H1 ⊢
  have c1 := World.rowIs.cell H1.out.1 (i := p + 1) (by omega)
  have z1 := World.rowIs.frozen H1.out.1 (p + 1)
  refine held_one (i := 17) (by kernel_rfl) rfl (fun K hK => ?_)
  go_simp
  refine hK.out _ _ trivial (fun hH3 => ?_)
  clear hK K
  refine wpAnyH_done (by kernel_rfl) ?_ _
  go_wp2
  go_end0
  refine ⟨rfl, ?_, grown_set H1.out.2 (p + 1) _⟩
  have := World.rowIs.set H1.out.1 (p + 1) (.int .u32 (zh.toNat : Int))
  refine rowIs_congrD this (fun j hj => ?_)
  by_cases e : j = p + 1
  · simp [e]
  · by_cases e2 : j = p
    · simp [e2]
    · simp [e, e2]
/-- A test's way. -/
theorem p_way {w : World} {b : Nat} {v : Nat → BitVec 32} (h : WdAt w b v) (x : Nd) (hk : x.k < 4294967296) (hm : x.mask < 4294967296) (ho : 0 ≤ x.off ∧ x.off < 64 ∧ x.off % 4 = 0) :
    Calls Try.prog 20 #[.pointer (some ⟨b, 0, none⟩), ndV x] w fun e w' => e = .returned (.int .i64 (if soN x (v (x.off.toNat / 4) &&& BitVec.ofNat 32 x.mask) = true then x.t else x.f)) ∧ Below w.heap.size w w' := by
  obtain ⟨leaf, word, off, mask, op, k, t, f⟩ := x
  dsimp only at hk hm ho ⊢
  obtain ⟨p, hpo⟩ : ∃ p : Nat, off = ((4 * p : Nat) : Int) := ⟨(off / 4).toNat, by omega⟩
  have hp16 : p < 16 := by omega
  have hpt : off.toNat / 4 = p := by omega
  rw [hpt]
  have ho0 : 0 ≤ off := ho.1
  obtain ⟨mb, hmb⟩ : ∃ mb : BitVec 32, mask = mb.toNat := ⟨BitVec.ofNat 32 mask, by rw [BitVec.toNat_ofNat, Nat.mod_eq_of_lt hm]⟩
  subst hmb
  have hmo : BitVec.ofNat 32 mb.toNat = mb := by simp
  rw [hmo]
  have hand := and32 (v p) mb
  have hq : off.tdiv 4 = (p : Int) := by
    rw [Int.tdiv_eq_ediv_of_nonneg (by omega)]; omega
  have hq2 : off / 4 = (p : Int) := by omega
  clear hpo hpt
  have hw0 : IntKind.i64.wrap (p : Int) = (p : Int) := IntWalk.i64_in _ (by omega)
  have hp0 : (p : Int) < 16 := by omega
  have HSO := Lib.hid (fun W => p_isSo ⟨leaf, word, off, mb.toNat, op, k, t, f⟩ hk (v p &&& mb) W)
  have hb1 := lboxL w (ndO ⟨leaf, word, off, mb.toNat, op, k, t, f⟩)
  have HX := Lib.hid (And.intro (World.alloc_heap_new w (ndO ⟨leaf, word, off, mb.toNat, op, k, t, f⟩)) (And.intro hb1 (rowIs_below h hb1 (World.rowIs.lt h))))
  clear h hb1 hk hm ho hmo
  dsimp only [ndO] at HX
  generalize soN ⟨leaf, word, off, mb.toNat, op, k, t, f⟩ (v p &&& mb) = so at HSO ⊢
  generalize hvp : v p &&& mb = va at HSO hand
  go_enter Try.func20, Try.ntmps20
  go_upto_region 1 with fail
  rename_i K9 hK9
  refine wp_region_held_drew (S := fun W' => W'.heap[w.heap.size]? = some (.cells #[.bool leaf, .int .u32 (word : Int), .int .i64 off, .int .u32 (mb.toNat : Int), .int .i64 op, .int .u32 (k : Int), .int .i64 t, .int .i64 f] 48) ∧ WdAt W' b v) (by kernel_rfl) ⟨HX.out.1, HX.out.2.2⟩ (fun hHeld => ?_)
  have H0 : Hid ((w.alloc (.cells #[.bool leaf, .int .u32 (word : Int), .int .i64 off, .int .u32 (mb.toNat : Int), .int .i64 op, .int .u32 (k : Int), .int .i64 t, .int .i64 f] 48)).drew.heap[w.heap.size]? = some (.cells #[.bool leaf, .int .u32 (word : Int), .int .i64 off, .int .u32 (mb.toNat : Int), .int .i64 op, .int .u32 (k : Int), .int .i64 t, .int .i64 f] 48) ∧ WdAt (w.alloc (.cells #[.bool leaf, .int .u32 (word : Int), .int .i64 off, .int .u32 (mb.toNat : Int), .int .i64 op, .int .u32 (k : Int), .int .i64 t, .int .i64 f] 48)).drew b v ∧ Below w.heap.size w (w.alloc (.cells #[.bool leaf, .int .u32 (word : Int), .int .i64 off, .int .u32 (mb.toNat : Int), .int .i64 op, .int .u32 (k : Int), .int .i64 t, .int .i64 f] 48)).drew) := Lib.hid ⟨HX.out.1, HX.out.2.2, HX.out.2.1.drew⟩
  clear HX
  generalize (w.alloc _).drew = Y at H0 hHeld ⊢
  obtain ⟨WS, hWS⟩ : ∃ n, w.heap.size = n := ⟨_, rfl⟩
  have HWS := Lib.hid hWS
  rw [hWS] at H0
  clear hWS
  have H0' : Hid (Y.heap[w.heap.size]? = some (.cells #[.bool leaf, .int .u32 (word : Int), .int .i64 off, .int .u32 (mb.toNat : Int), .int .i64 op, .int .u32 (k : Int), .int .i64 t, .int .i64 f] 48) ∧ WdAt Y b v ∧ Below WS w Y) := Lib.hid ⟨by rw [HWS.out]; exact H0.out.1, H0.out.2.1, H0.out.2.2⟩
  clear H0
  have H0 := H0'
  clear H0'
  generalize w.heap.size = nb at H0 hHeld ⊢
  refine wpAnyH_take (i := 0) (v := ?_) rfl (by kernel_rfl) (by kernel_rfl) (by kernel_rfl) (fun _ _ _ h => h) (Or.inl ⟨by rfl, ?_⟩) (by assumption) ?_
  rotate_left
  · intro wS hSw
    (obtain ⟨hS1, hS2⟩ := hSw; have d0 := cellD hS1 0 rfl; have d1 := cellD hS1 1 rfl; have d2 := cellD hS1 2 rfl; have d3 := cellD hS1 3 rfl; have d4 := cellD hS1 4 rfl; have d5 := cellD hS1 5 rfl; have d6 := cellD hS1 6 rfl; have d7 := cellD hS1 7 rfl; have x0 := World.rowIs.cell hS2 (i := p) hp16)
    go_simp
    all_goals with_reducible rfl
  (try simp only [List.getElem_toArray, List.getElem_cons_zero, List.getElem_cons_succ, Act.put, List.setIfInBounds_toArray, List.set_cons_zero, List.set_cons_succ])
  refine wpAnyH_take (i := 1) (v := ?_) rfl (by kernel_rfl) (by kernel_rfl) (by kernel_rfl) (fun _ _ _ h => h) (Or.inl ⟨by rfl, ?_⟩) (by assumption) ?_
  rotate_left
  · intro wS hSw
    (obtain ⟨hS1, hS2⟩ := hSw; have d0 := cellD hS1 0 rfl; have d1 := cellD hS1 1 rfl; have d2 := cellD hS1 2 rfl; have d3 := cellD hS1 3 rfl; have d4 := cellD hS1 4 rfl; have d5 := cellD hS1 5 rfl; have d6 := cellD hS1 6 rfl; have d7 := cellD hS1 7 rfl; have x0 := World.rowIs.cell hS2 (i := p) hp16)
    go_simp
    all_goals with_reducible rfl
  (try simp only [List.getElem_toArray, List.getElem_cons_zero, List.getElem_cons_succ, Act.put, List.setIfInBounds_toArray, List.set_cons_zero, List.set_cons_succ])
  refine wpAnyH_take (i := 2) (v := ?_) rfl (by kernel_rfl) (by kernel_rfl) (by kernel_rfl) (fun _ _ _ h => h) (Or.inl ⟨by rfl, ?_⟩) (by assumption) ?_
  rotate_left
  · intro wS hSw
    (obtain ⟨hS1, hS2⟩ := hSw; have d0 := cellD hS1 0 rfl; have d1 := cellD hS1 1 rfl; have d2 := cellD hS1 2 rfl; have d3 := cellD hS1 3 rfl; have d4 := cellD hS1 4 rfl; have d5 := cellD hS1 5 rfl; have d6 := cellD hS1 6 rfl; have d7 := cellD hS1 7 rfl; have x0 := World.rowIs.cell hS2 (i := p) hp16)
    go_simp
    all_goals with_reducible rfl
  (try simp only [List.getElem_toArray, List.getElem_cons_zero, List.getElem_cons_succ, Act.put, List.setIfInBounds_toArray, List.set_cons_zero, List.set_cons_succ])
  refine wpAnyH_take (i := 3) (v := ?_) rfl (by kernel_rfl) (by kernel_rfl) (by kernel_rfl) (fun _ _ _ h => h) (Or.inl ⟨by rfl, ?_⟩) (by assumption) ?_
  rotate_left
  · intro wS hSw
    (obtain ⟨hS1, hS2⟩ := hSw; have d0 := cellD hS1 0 rfl; have d1 := cellD hS1 1 rfl; have d2 := cellD hS1 2 rfl; have d3 := cellD hS1 3 rfl; have d4 := cellD hS1 4 rfl; have d5 := cellD hS1 5 rfl; have d6 := cellD hS1 6 rfl; have d7 := cellD hS1 7 rfl; have x0 := World.rowIs.cell hS2 (i := p) hp16)
    go_simp
    all_goals with_reducible rfl
  (try simp only [List.getElem_toArray, List.getElem_cons_zero, List.getElem_cons_succ, Act.put, List.setIfInBounds_toArray, List.set_cons_zero, List.set_cons_succ])
  refine wpAnyH_take (i := 4) (v := ?_) rfl (by kernel_rfl) (by kernel_rfl) (by kernel_rfl) (fun _ _ _ h => h) (Or.inl ⟨by rfl, ?_⟩) (by assumption) ?_
  rotate_left
  · intro wS hSw
    (obtain ⟨hS1, hS2⟩ := hSw; have d0 := cellD hS1 0 rfl; have d1 := cellD hS1 1 rfl; have d2 := cellD hS1 2 rfl; have d3 := cellD hS1 3 rfl; have d4 := cellD hS1 4 rfl; have d5 := cellD hS1 5 rfl; have d6 := cellD hS1 6 rfl; have d7 := cellD hS1 7 rfl; have x0 := World.rowIs.cell hS2 (i := p) hp16)
    go_simp
    all_goals with_reducible rfl
  (try simp only [List.getElem_toArray, List.getElem_cons_zero, List.getElem_cons_succ, Act.put, List.setIfInBounds_toArray, List.set_cons_zero, List.set_cons_succ])
  refine wpAnyH_take (i := 5) (v := ?_) rfl (by kernel_rfl) (by kernel_rfl) (by kernel_rfl) (fun _ _ _ h => h) (Or.inl ⟨by rfl, ?_⟩) (by assumption) ?_
  rotate_left
  · intro wS hSw
    (obtain ⟨hS1, hS2⟩ := hSw; have d0 := cellD hS1 0 rfl; have d1 := cellD hS1 1 rfl; have d2 := cellD hS1 2 rfl; have d3 := cellD hS1 3 rfl; have d4 := cellD hS1 4 rfl; have d5 := cellD hS1 5 rfl; have d6 := cellD hS1 6 rfl; have d7 := cellD hS1 7 rfl; have x0 := World.rowIs.cell hS2 (i := p) hp16)
    go_simp
    all_goals with_reducible rfl
  (try simp only [List.getElem_toArray, List.getElem_cons_zero, List.getElem_cons_succ, Act.put, List.setIfInBounds_toArray, List.set_cons_zero, List.set_cons_succ])
  refine wpAnyH_take (i := 6) (v := ?_) rfl (by kernel_rfl) (by kernel_rfl) (by kernel_rfl) (fun _ _ _ h => h) (Or.inl ⟨by rfl, ?_⟩) (by assumption) ?_
  rotate_left
  · intro wS hSw
    (obtain ⟨hS1, hS2⟩ := hSw; have d0 := cellD hS1 0 rfl; have d1 := cellD hS1 1 rfl; have d2 := cellD hS1 2 rfl; have d3 := cellD hS1 3 rfl; have d4 := cellD hS1 4 rfl; have d5 := cellD hS1 5 rfl; have d6 := cellD hS1 6 rfl; have d7 := cellD hS1 7 rfl; have x0 := World.rowIs.cell hS2 (i := p) hp16)
    go_simp
    all_goals with_reducible rfl
  (try simp only [List.getElem_toArray, List.getElem_cons_zero, List.getElem_cons_succ, Act.put, List.setIfInBounds_toArray, List.set_cons_zero, List.set_cons_succ])
  refine wpAnyH_take (i := 7) (v := ?_) rfl (by kernel_rfl) (by kernel_rfl) (by kernel_rfl) (fun _ _ _ h => h) (Or.inl ⟨by rfl, ?_⟩) (by assumption) ?_
  rotate_left
  · intro wS hSw
    (obtain ⟨hS1, hS2⟩ := hSw; have d0 := cellD hS1 0 rfl; have d1 := cellD hS1 1 rfl; have d2 := cellD hS1 2 rfl; have d3 := cellD hS1 3 rfl; have d4 := cellD hS1 4 rfl; have d5 := cellD hS1 5 rfl; have d6 := cellD hS1 6 rfl; have d7 := cellD hS1 7 rfl; have x0 := World.rowIs.cell hS2 (i := p) hp16)
    go_simp
    all_goals with_reducible rfl
  (try simp only [List.getElem_toArray, List.getElem_cons_zero, List.getElem_cons_succ, Act.put, List.setIfInBounds_toArray, List.set_cons_zero, List.set_cons_succ])
  refine wpAnyH_take (i := 8) (v := ?_) rfl (by kernel_rfl) (by kernel_rfl) (by kernel_rfl) (fun _ _ _ h => h) (Or.inl ⟨by rfl, ?_⟩) (by assumption) ?_
  rotate_left
  · intro wS hSw
    (obtain ⟨hS1, hS2⟩ := hSw; have d0 := cellD hS1 0 rfl; have d1 := cellD hS1 1 rfl; have d2 := cellD hS1 2 rfl; have d3 := cellD hS1 3 rfl; have d4 := cellD hS1 4 rfl; have d5 := cellD hS1 5 rfl; have d6 := cellD hS1 6 rfl; have d7 := cellD hS1 7 rfl; have x0 := World.rowIs.cell hS2 (i := p) hp16)
    go_simp
    all_goals with_reducible rfl
  (try simp only [List.getElem_toArray, List.getElem_cons_zero, List.getElem_cons_succ, Act.put, List.setIfInBounds_toArray, List.set_cons_zero, List.set_cons_succ])
  refine wpAnyH_take (i := 9) (v := ?_) rfl (by kernel_rfl) (by kernel_rfl) (by kernel_rfl) (fun _ _ _ h => h) (Or.inl ⟨by rfl, ?_⟩) (by assumption) ?_
  rotate_left
  · intro wS hSw
    (obtain ⟨hS1, hS2⟩ := hSw; have d0 := cellD hS1 0 rfl; have d1 := cellD hS1 1 rfl; have d2 := cellD hS1 2 rfl; have d3 := cellD hS1 3 rfl; have d4 := cellD hS1 4 rfl; have d5 := cellD hS1 5 rfl; have d6 := cellD hS1 6 rfl; have d7 := cellD hS1 7 rfl; have x0 := World.rowIs.cell hS2 (i := p) hp16)
    go_simp
    all_goals with_reducible rfl
  (try simp only [List.getElem_toArray, List.getElem_cons_zero, List.getElem_cons_succ, Act.put, List.setIfInBounds_toArray, List.set_cons_zero, List.set_cons_succ])
  refine wpAnyH_take (i := 10) (v := ?_) rfl (by kernel_rfl) (by kernel_rfl) (by kernel_rfl) (fun _ _ _ h => h) (Or.inl ⟨by rfl, ?_⟩) (by assumption) ?_
  rotate_left
  · intro wS hSw
    (obtain ⟨hS1, hS2⟩ := hSw; have d0 := cellD hS1 0 rfl; have d1 := cellD hS1 1 rfl; have d2 := cellD hS1 2 rfl; have d3 := cellD hS1 3 rfl; have d4 := cellD hS1 4 rfl; have d5 := cellD hS1 5 rfl; have d6 := cellD hS1 6 rfl; have d7 := cellD hS1 7 rfl; have x0 := World.rowIs.cell hS2 (i := p) hp16)
    go_simp
    all_goals with_reducible rfl
  (try simp only [List.getElem_toArray, List.getElem_cons_zero, List.getElem_cons_succ, Act.put, List.setIfInBounds_toArray, List.set_cons_zero, List.set_cons_succ])
  refine held_one (i := 11) (by kernel_rfl) rfl (fun K hK => ?_)
  go_simp
  go_at_call 43
  refine (HSO.out _).mono ?_
  rintro e w1 ⟨rfl, hb1⟩
  have H1 : Hid (w1.heap[nb]? = some (.cells #[.bool leaf, .int .u32 (word : Int), .int .i64 off, .int .u32 (mb.toNat : Int), .int .i64 op, .int .u32 (k : Int), .int .i64 t, .int .i64 f] 48) ∧ Below WS w w1) := Lib.hid ⟨(hb1.block nb (Array.getElem?_eq_some_iff.1 H0.out.1).1).trans H0.out.1, H0.out.2.2.trans (hb1.mono (by rw [← HWS.out]; exact H0.out.2.2.size))⟩
  refine hK.out _ _ ⟨H1.out.1, rowIs_below H0.out.2.1 hb1 (World.rowIs.lt H0.out.2.1)⟩ (fun hH2 => ?_)
  clear hK K hHeld hb1 H0 hH2
  refine wpAnyH_done (by kernel_rfl) ?_ _
  refine hK9 _ _ ?_
  clear hK9 K9
  have d6 := cellD H1.out.1 6 (v := .int .i64 t) rfl
  have d7 := cellD H1.out.1 7 (v := .int .i64 f) rfl
  cases so with
  | true =>
    go_wp2
    go_ret
    exact ⟨rfl, by rw [HWS.out]; exact H1.out.2⟩
  | false =>
    go_wp2
    go_ret
    exact ⟨rfl, by rw [HWS.out]; exact H1.out.2⟩
theorem results_cell {fn : Func} {p : Tmp} {ty : TypeId} (h : fn.results = #[.cell p ty]) (tmps : Array Value) (P : Program) (w : World) : (results fn tmps).run P w = ((asAddr (tmps.getD p undef)).run P w).andThen fun a w₁ => (loadVar ty a).run P w₁ := by
  simp only [results, h]
  simp [Sem.run_bind, Result.andThen]
theorem p_argAtD (k : Nat) (hk : k ≤ 1000) (w : World) : Calls Try.prog 42 #[.int .i64 (k : Int)] w fun e w' => e = .returned (.int .i64 ((4 * (4 + 2 * k) : Nat) : Int)) ∧ w' = w := by
  have h1 : IntKind.i64.wrap (8 * (k : Int)) = 8 * (k : Int) := IntWalk.i64_in _ (by omega)
  have h2 : IntKind.i64.wrap (16 + 8 * (k : Int)) = 16 + 8 * (k : Int) := IntWalk.i64_in _ (by omega)
  go_enter Try.func42, Try.ntmps42
  go_wp2
  go_ret
  exact ⟨by show Ending.returned (Value.int .i64 (16 + 8 * (k : Int))) = _; congr 2; omega, rfl⟩
def wdB (nr arch ip : Nat) (args : Nat → Nat) (p : Nat) : BitVec 32 := BitVec.ofNat 32 (wordD nr arch ip args p)
abbrev wdV (v : Nat → BitVec 32) : Value := .agg #[.int .u32 ((v 0).toNat : Int), .int .u32 ((v 1).toNat : Int), .int .u32 ((v 2).toNat : Int), .int .u32 ((v 3).toNat : Int), .int .u32 ((v 4).toNat : Int), .int .u32 ((v 5).toNat : Int), .int .u32 ((v 6).toNat : Int), .int .u32 ((v 7).toNat : Int), .int .u32 ((v 8).toNat : Int), .int .u32 ((v 9).toNat : Int), .int .u32 ((v 10).toNat : Int), .int .u32 ((v 11).toNat : Int), .int .u32 ((v 12).toNat : Int), .int .u32 ((v 13).toNat : Int), .int .u32 ((v 14).toNat : Int), .int .u32 ((v 15).toNat : Int)]
abbrev wdZ : Obj := .cells #[.int .u32 0, .int .u32 0, .int .u32 0, .int .u32 0, .int .u32 0, .int .u32 0, .int .u32 0, .int .u32 0, .int .u32 0, .int .u32 0, .int .u32 0, .int .u32 0, .int .u32 0, .int .u32 0, .int .u32 0, .int .u32 0] 60
theorem ofNat_mod (z : Nat) : BitVec.ofNat 32 (z % 4294967296) = BitVec.ofNat 32 z := by
  apply BitVec.eq_of_toNat_eq; simp [BitVec.toNat_ofNat]
/-- So many of the words are laid. -/
def stageW (nr arch ip : Nat) (args : Nat → Nat) (m : Nat) : Nat → BitVec 32 := fun j => if j < m then wdB nr arch ip args j else 0#32
theorem wd_zero (w : World) : WdAt (w.alloc wdZ) w.heap.size (fun _ => 0#32) := by
  have := World.rowIs_alloc w #[.int .u32 0, .int .u32 0, .int .u32 0, .int .u32 0, .int .u32 0, .int .u32 0, .int .u32 0, .int .u32 0, .int .u32 0, .int .u32 0, .int .u32 0, .int .u32 0, .int .u32 0, .int .u32 0, .int .u32 0, .int .u32 0] 60 (fun _ => .int .u32 ((0#32 : BitVec 32).toNat : Int)) (fun j hj => by
    have hj' : j < 16 := hj
    rcases (by omega : j = 0 ∨ j = 1 ∨ j = 2 ∨ j = 3 ∨ j = 4 ∨ j = 5 ∨ j = 6 ∨ j = 7 ∨ j = 8 ∨ j = 9 ∨ j = 10 ∨ j = 11 ∨ j = 12 ∨ j = 13 ∨ j = 14 ∨ j = 15) with rfl | rfl | rfl | rfl | rfl | rfl | rfl | rfl | rfl | rfl | rfl | rfl | rfl | rfl | rfl | rfl <;> rfl)
  exact this
theorem frozenD {W : World} {B : Nat} {c : Array Value} {t : TypeId} (h : W.heap[B]? = some (.cells c t (0, 0))) (i : Nat) : W.frozen? ⟨B, i, none⟩ = false := by
  unfold World.frozen?; rw [h]; simp
theorem set_otherD {W : World} {g k : Nat} {v : Value} {p : Nat} (h : p ≠ g) : (W.setCell ⟨g, k, none⟩ v).heap[p]? = W.heap[p]? := by
  simp only [World.setCell]
  rw [Array.getElem?_modify, if_neg (fun e => h e.symm)]
theorem stage_two (nr arch ip : Nat) (args : Nat → Nat) (h1 : nr < 4294967296) (h2 : arch < 4294967296) (j : Nat) : (if j = 1 then Value.int .u32 (arch : Int) else if j = 0 then .int .u32 (nr : Int) else .int .u32 0) = .int .u32 ((stageW nr arch ip args 2 j).toNat : Int) := by
  unfold stageW
  by_cases e1 : j = 1
  · subst e1
    simp [wdB, wordD, BitVec.toNat_ofNat, Nat.mod_eq_of_lt h2]
  · by_cases e0 : j = 0
    · subst e0
      simp [wdB, wordD, BitVec.toNat_ofNat, Nat.mod_eq_of_lt h1]
    · rw [if_neg e1, if_neg e0, if_neg (by omega)]; rfl
theorem stage_ip (nr arch ip : Nat) (args : Nat → Nat) (j : Nat) : (if j = 2 + 1 then BitVec.ofNat 32 (ip / 4294967296) else if j = 2 then BitVec.ofNat 32 ip else stageW nr arch ip args 2 j) = stageW nr arch ip args 4 j := by
  unfold stageW wdB
  by_cases e3 : j = 3
  · subst e3; simp [wordD, ofNat_mod]
  · by_cases e2 : j = 2
    · subst e2; simp [wordD, ofNat_mod]
    · rw [if_neg e3, if_neg e2]
      by_cases g : j < 2
      · rw [if_pos g, if_pos (by omega)]
      · rw [if_neg g, if_neg (by omega)]
theorem stage_next (nr arch ip : Nat) (args : Nat → Nat) (k j : Nat) (hk : k < 6) : (if j = 4 + 2 * k + 1 then BitVec.ofNat 32 (args k / 4294967296) else if j = 4 + 2 * k then BitVec.ofNat 32 (args k) else stageW nr arch ip args (4 + 2 * k) j) = stageW nr arch ip args (4 + 2 * (k + 1)) j := by
  unfold stageW wdB
  by_cases e3 : j = 4 + 2 * k + 1
  · subst e3
    rw [if_pos rfl, if_pos (by omega)]
    unfold wordD
    rw [if_neg (by omega), if_neg (by omega), if_neg (by omega), if_neg (by omega), if_neg (by omega), ofNat_mod, show (4 + 2 * k + 1) / 2 - 2 = k by omega]
  · rw [if_neg e3]
    by_cases e2 : j = 4 + 2 * k
    · subst e2
      rw [if_pos rfl, if_pos (by omega)]
      unfold wordD
      rw [if_neg (by omega), if_neg (by omega), if_neg (by omega), if_neg (by omega), if_pos (by omega), ofNat_mod, show (4 + 2 * k) / 2 - 2 = k by omega]
    · rw [if_neg e2]
      by_cases g : j < 4 + 2 * k
      · rw [if_pos g, if_pos (by omega)]
      · rw [if_neg g, if_neg (by omega)]
set_option maxHeartbeats 4000000 in
set_option maxRecDepth 100000 in
theorem p_wordsOf (nr arch ip : Nat) (args : Nat → Nat) (h1 : nr < 4294967296) (h2 : arch < 4294967296) (h3 : ip < 18446744073709551616) (h4 : ∀ i, args i < 18446744073709551616) (w : World) :
    Calls Try.prog 19 #[.agg #[.int .u32 (nr : Int), .int .u32 (arch : Int), .int .u64 (ip : Int), .int .u64 (args 0 : Int), .int .u64 (args 1 : Int), .int .u64 (args 2 : Int), .int .u64 (args 3 : Int), .int .u64 (args 4 : Int), .int .u64 (args 5 : Int)]] w fun e w' => e = .returned (wdV (wdB nr arch ip args)) ∧ Below w.heap.size w w' := by
  go_enter Try.func19, Try.ntmps19
  go_upto_region 2 with fail
  rename_i K9 hK9
  have H0 : Hid (∃ db rb wb : Nat, db = w.heap.size ∧ rb = w.heap.size + 1 ∧ wb = w.heap.size + 1 + 1 ∧ (((w.alloc (.cells #[.int .u32 (nr : Int), .int .u32 (arch : Int), .int .u64 (ip : Int), .int .u64 (args 0 : Int), .int .u64 (args 1 : Int), .int .u64 (args 2 : Int), .int .u64 (args 3 : Int), .int .u64 (args 4 : Int), .int .u64 (args 5 : Int)] 40)).alloc wdZ).alloc wdZ).drew.heap[db]? = some (.cells #[.int .u32 (nr : Int), .int .u32 (arch : Int), .int .u64 (ip : Int), .int .u64 (args 0 : Int), .int .u64 (args 1 : Int), .int .u64 (args 2 : Int), .int .u64 (args 3 : Int), .int .u64 (args 4 : Int), .int .u64 (args 5 : Int)] 40) ∧ (((w.alloc (.cells #[.int .u32 (nr : Int), .int .u32 (arch : Int), .int .u64 (ip : Int), .int .u64 (args 0 : Int), .int .u64 (args 1 : Int), .int .u64 (args 2 : Int), .int .u64 (args 3 : Int), .int .u64 (args 4 : Int), .int .u64 (args 5 : Int)] 40)).alloc wdZ).alloc wdZ).drew.heap[rb]? = some wdZ ∧ WdAt (((w.alloc (.cells #[.int .u32 (nr : Int), .int .u32 (arch : Int), .int .u64 (ip : Int), .int .u64 (args 0 : Int), .int .u64 (args 1 : Int), .int .u64 (args 2 : Int), .int .u64 (args 3 : Int), .int .u64 (args 4 : Int), .int .u64 (args 5 : Int)] 40)).alloc wdZ).alloc wdZ).drew wb (fun _ => 0#32) ∧ Below w.heap.size w (((w.alloc (.cells #[.int .u32 (nr : Int), .int .u32 (arch : Int), .int .u64 (ip : Int), .int .u64 (args 0 : Int), .int .u64 (args 1 : Int), .int .u64 (args 2 : Int), .int .u64 (args 3 : Int), .int .u64 (args 4 : Int), .int .u64 (args 5 : Int)] 40)).alloc wdZ).alloc wdZ).drew) := by
    have q1 := lboxL w (.cells #[.int .u32 (nr : Int), .int .u32 (arch : Int), .int .u64 (ip : Int), .int .u64 (args 0 : Int), .int .u64 (args 1 : Int), .int .u64 (args 2 : Int), .int .u64 (args 3 : Int), .int .u64 (args 4 : Int), .int .u64 (args 5 : Int)] 40)
    have q2 := lboxL (w.alloc (.cells #[.int .u32 (nr : Int), .int .u32 (arch : Int), .int .u64 (ip : Int), .int .u64 (args 0 : Int), .int .u64 (args 1 : Int), .int .u64 (args 2 : Int), .int .u64 (args 3 : Int), .int .u64 (args 4 : Int), .int .u64 (args 5 : Int)] 40)) wdZ
    have q3 := lboxL ((w.alloc (.cells #[.int .u32 (nr : Int), .int .u32 (arch : Int), .int .u64 (ip : Int), .int .u64 (args 0 : Int), .int .u64 (args 1 : Int), .int .u64 (args 2 : Int), .int .u64 (args 3 : Int), .int .u64 (args 4 : Int), .int .u64 (args 5 : Int)] 40)).alloc wdZ) wdZ
    have b1 := World.alloc_heap_new w (.cells #[.int .u32 (nr : Int), .int .u32 (arch : Int), .int .u64 (ip : Int), .int .u64 (args 0 : Int), .int .u64 (args 1 : Int), .int .u64 (args 2 : Int), .int .u64 (args 3 : Int), .int .u64 (args 4 : Int), .int .u64 (args 5 : Int)] 40)
    have b2 := World.alloc_heap_new (w.alloc (.cells #[.int .u32 (nr : Int), .int .u32 (arch : Int), .int .u64 (ip : Int), .int .u64 (args 0 : Int), .int .u64 (args 1 : Int), .int .u64 (args 2 : Int), .int .u64 (args 3 : Int), .int .u64 (args 4 : Int), .int .u64 (args 5 : Int)] 40)) wdZ
    have b3 := wd_zero ((w.alloc (.cells #[.int .u32 (nr : Int), .int .u32 (arch : Int), .int .u64 (ip : Int), .int .u64 (args 0 : Int), .int .u64 (args 1 : Int), .int .u64 (args 2 : Int), .int .u64 (args 3 : Int), .int .u64 (args 4 : Int), .int .u64 (args 5 : Int)] 40)).alloc wdZ)
    exact Lib.hid ⟨_, _, _, rfl, rfl, rfl, (q3.block _ (by simp; omega)).trans ((q2.block _ (by simp)).trans b1), (q3.block _ (by simp)).trans (by have := b2; simpa using this), by { have q : WdAt (((w.alloc (.cells #[.int .u32 (nr : Int), .int .u32 (arch : Int), .int .u64 (ip : Int), .int .u64 (args 0 : Int), .int .u64 (args 1 : Int), .int .u64 (args 2 : Int), .int .u64 (args 3 : Int), .int .u64 (args 4 : Int), .int .u64 (args 5 : Int)] 40)).alloc wdZ).alloc wdZ) (w.heap.size + 1 + 1) (fun _ => 0#32) := (by simpa using b3); exact q }, ((q1.trans (q2.mono (by simp))).trans (q3.mono (by simp; omega))).drew⟩
  obtain ⟨db, rb, wb, hdb, hrb, hwb, H0'⟩ := H0.out
  rw [← hwb, ← hrb, ← hdb]
  have H1 := Lib.hid H0'
  have HD := Lib.hid (And.intro hdb (And.intro hrb hwb))
  clear H0 H0' hdb hrb hwb
  refine wp_region_held_drew (S := fun W' => W'.heap[db]? = some (.cells #[.int .u32 (nr : Int), .int .u32 (arch : Int), .int .u64 (ip : Int), .int .u64 (args 0 : Int), .int .u64 (args 1 : Int), .int .u64 (args 2 : Int), .int .u64 (args 3 : Int), .int .u64 (args 4 : Int), .int .u64 (args 5 : Int)] 40)) (by kernel_rfl) H1.out.1 (fun hHeld => ?_)
  generalize (((w.alloc _).alloc _).alloc _).drew = Y at H1 hHeld ⊢
  refine wpAnyH_take (i := 0) (v := ?_) rfl (by kernel_rfl) (by kernel_rfl) (by kernel_rfl) (fun _ _ _ h => h) (Or.inl ⟨by rfl, ?_⟩) (by assumption) ?_
  rotate_left
  · intro wS hSw
    (have d0 := cellD hSw 0 rfl; have d1 := cellD hSw 1 rfl)
    go_simp
    all_goals with_reducible rfl
  (try simp only [List.getElem_toArray, List.getElem_cons_zero, List.getElem_cons_succ, Act.put, List.setIfInBounds_toArray, List.set_cons_zero, List.set_cons_succ])
  refine wpAnyH_take (i := 1) (v := ?_) rfl (by kernel_rfl) (by kernel_rfl) (by kernel_rfl) (fun _ _ _ h => h) (Or.inl ⟨by rfl, ?_⟩) (by assumption) ?_
  rotate_left
  · intro wS hSw
    (have d0 := cellD hSw 0 rfl; have d1 := cellD hSw 1 rfl)
    go_simp
    all_goals with_reducible rfl
  (try simp only [List.getElem_toArray, List.getElem_cons_zero, List.getElem_cons_succ, Act.put, List.setIfInBounds_toArray, List.set_cons_zero, List.set_cons_succ])
  refine wpAnyH_take (i := 2) (v := ?_) rfl (by kernel_rfl) (by kernel_rfl) (by kernel_rfl) (fun _ _ _ h => h) (Or.inl ⟨by rfl, ?_⟩) (by assumption) ?_
  rotate_left
  · intro wS hSw
    (have d0 := cellD hSw 0 rfl; have d1 := cellD hSw 1 rfl)
    go_simp
    all_goals with_reducible rfl
  (try simp only [List.getElem_toArray, List.getElem_cons_zero, List.getElem_cons_succ, Act.put, List.setIfInBounds_toArray, List.set_cons_zero, List.set_cons_succ])
  refine wpAnyH_take (i := 3) (v := ?_) rfl (by kernel_rfl) (by kernel_rfl) (by kernel_rfl) (fun _ _ _ h => h) (Or.inl ⟨by rfl, ?_⟩) (by assumption) ?_
  rotate_left
  · intro wS hSw
    (have d0 := cellD hSw 0 rfl; have d1 := cellD hSw 1 rfl)
    go_simp
    all_goals with_reducible rfl
  (try simp only [List.getElem_toArray, List.getElem_cons_zero, List.getElem_cons_succ, Act.put, List.setIfInBounds_toArray, List.set_cons_zero, List.set_cons_succ])
  refine wpAnyH_take (i := 4) (v := ?_) rfl (by kernel_rfl) (by kernel_rfl) (by kernel_rfl) (fun _ _ _ h => h) (Or.inl ⟨by rfl, ?_⟩) (by assumption) ?_
  rotate_left
  · intro wS hSw
    (have d0 := cellD hSw 0 rfl; have d1 := cellD hSw 1 rfl)
    go_simp
    all_goals with_reducible rfl
  (try simp only [List.getElem_toArray, List.getElem_cons_zero, List.getElem_cons_succ, Act.put, List.setIfInBounds_toArray, List.set_cons_zero, List.set_cons_succ])
  have c0 := World.rowIs.cell H1.out.2.2.1 (i := 0) (by decide)
  have z0 := World.rowIs.frozen H1.out.2.2.1 0
  refine held_one (i := 5) (by kernel_rfl) rfl (fun K hK => ?_)
  go_simp
  have H2 : Hid ((Y.setCell ⟨wb, 0, none⟩ (.int .u32 (nr : Int))).heap[db]? = some (.cells #[.int .u32 (nr : Int), .int .u32 (arch : Int), .int .u64 (ip : Int), .int .u64 (args 0 : Int), .int .u64 (args 1 : Int), .int .u64 (args 2 : Int), .int .u64 (args 3 : Int), .int .u64 (args 4 : Int), .int .u64 (args 5 : Int)] 40) ∧ (Y.setCell ⟨wb, 0, none⟩ (.int .u32 (nr : Int))).heap[rb]? = some wdZ ∧ (Y.setCell ⟨wb, 0, none⟩ (.int .u32 (nr : Int))).rowIs wb 60 16 (fun j => if j = 0 then .int .u32 (nr : Int) else .int .u32 0) ∧ Below w.heap.size w (Y.setCell ⟨wb, 0, none⟩ (.int .u32 (nr : Int)))) := Lib.hid ⟨(set_otherD (by have := HD.out; omega)).trans H1.out.1, (set_otherD (by have := HD.out; omega)).trans H1.out.2.1, rowIs_congrD (World.rowIs.set H1.out.2.2.1 0 _) (fun j hj => by by_cases e : j = 0 <;> simp [e]), H1.out.2.2.2.setCell (p := ⟨wb, 0, none⟩) (by have := HD.out; show w.heap.size ≤ wb; omega) _⟩
  refine hK.out _ _ H2.out.1 (fun hH2 => ?_)
  clear hK K hHeld c0 z0 H1
  (try simp only [Act.put, List.setIfInBounds_toArray, List.set_cons_zero, List.set_cons_succ, List.getElem_toArray, List.getElem_cons_zero, List.getElem_cons_succ])
  refine wpAnyH_take (i := 6) (v := ?_) rfl (by kernel_rfl) (by kernel_rfl) (by kernel_rfl) (fun _ _ _ h => h) (Or.inl ⟨by rfl, ?_⟩) (by assumption) ?_
  rotate_left
  · intro wS hSw
    (skip)
    go_simp
    all_goals with_reducible rfl
  (try simp only [List.getElem_toArray, List.getElem_cons_zero, List.getElem_cons_succ, Act.put, List.setIfInBounds_toArray, List.set_cons_zero, List.set_cons_succ])
  generalize Y.setCell _ _ = Z at H2 hH2 ⊢
  have c1 := World.rowIs.cell H2.out.2.2.1 (i := 1) (by decide)
  have z1 := World.rowIs.frozen H2.out.2.2.1 1
  refine held_one (i := 7) (by kernel_rfl) rfl (fun K hK => ?_)
  go_simp
  have H3 : Hid ((Z.setCell ⟨wb, 1, none⟩ (.int .u32 (arch : Int))).heap[db]? = some (.cells #[.int .u32 (nr : Int), .int .u32 (arch : Int), .int .u64 (ip : Int), .int .u64 (args 0 : Int), .int .u64 (args 1 : Int), .int .u64 (args 2 : Int), .int .u64 (args 3 : Int), .int .u64 (args 4 : Int), .int .u64 (args 5 : Int)] 40) ∧ (Z.setCell ⟨wb, 1, none⟩ (.int .u32 (arch : Int))).heap[rb]? = some wdZ ∧ WdAt (Z.setCell ⟨wb, 1, none⟩ (.int .u32 (arch : Int))) wb (stageW nr arch ip args 2) ∧ Below w.heap.size w (Z.setCell ⟨wb, 1, none⟩ (.int .u32 (arch : Int)))) := Lib.hid ⟨(set_otherD (by have := HD.out; omega)).trans H2.out.1, (set_otherD (by have := HD.out; omega)).trans H2.out.2.1, rowIs_congrD (World.rowIs.set H2.out.2.2.1 1 _) (fun j hj => stage_two nr arch ip args h1 h2 j), H2.out.2.2.2.setCell (p := ⟨wb, 1, none⟩) (by have := HD.out; show w.heap.size ≤ wb; omega) _⟩
  refine hK.out _ _ H3.out.1 (fun hH3 => ?_)
  clear hK K hH2 c1 z1 H2
  refine wpAnyH_done (by kernel_rfl) ?_ _
  refine hK9 _ _ ?_
  clear hK9 K9 hH3
  generalize Z.setCell _ _ = V at H3 ⊢
  have d2 := cellD H3.out.1 2 (v := .int .u64 (ip : Int)) rfl
  have HY0 : Hid (∀ V v, WdAt V wb v → Calls Try.prog 41 #[.pointer (some ⟨wb, 0, none⟩), .int .i64 8, .int .u64 (ip : Int)] V fun e w' => e = .returned (.tuple #[]) ∧ WdAt w' wb (fun j => if j = 2 + 1 then BitVec.ofNat 32 (ip / 4294967296) else if j = 2 then BitVec.ofNat 32 ip else v j) ∧ V.grownBy w' (some wb)) := Lib.hid (fun V v h => p_wlay h (p := 2) (by decide) ip h3)
  go_wp2_with (go_at_call 41; (with_reducible refine (HY0.out _ _ H3.out.2.2.1).mono ?_); rintro e w2 ⟨rfl, hw2, hg2⟩; have H4 : Hid (w2.heap[db]? = some (.cells #[.int .u32 (nr : Int), .int .u32 (arch : Int), .int .u64 (ip : Int), .int .u64 (args 0 : Int), .int .u64 (args 1 : Int), .int .u64 (args 2 : Int), .int .u64 (args 3 : Int), .int .u64 (args 4 : Int), .int .u64 (args 5 : Int)] 40) ∧ w2.heap[rb]? = some wdZ ∧ WdAt w2 wb (stageW nr arch ip args 4) ∧ Below w.heap.size w w2) := Lib.hid ⟨(hg2.block db (Array.getElem?_eq_some_iff.1 H3.out.1).1 (fun e => by injection e with e; have := HD.out; omega)).trans H3.out.1, (hg2.block rb (Array.getElem?_eq_some_iff.1 H3.out.2.1).1 (fun e => by injection e with e; have := HD.out; omega)).trans H3.out.2.1, rowIs_congrD hw2 (fun j hj => congrArg (fun z : BitVec 32 => Value.int .u32 (z.toNat : Int)) (stage_ip nr arch ip args j)), below_grown H3.out.2.2.2 hg2 (by have := HD.out; omega) (Nat.le_refl _)⟩; clear hw2 hg2 d2; have e3 := cellD H4.out.1 3 (v := .int .u64 (args 0 : Int)) rfl; have e4 := cellD H4.out.1 4 (v := .int .u64 (args 1 : Int)) rfl; have e5 := cellD H4.out.1 5 (v := .int .u64 (args 2 : Int)) rfl; have e6 := cellD H4.out.1 6 (v := .int .u64 (args 3 : Int)) rfl; have e7 := cellD H4.out.1 7 (v := .int .u64 (args 4 : Int)) rfl; have e8 := cellD H4.out.1 8 (v := .int .u64 (args 5 : Int)) rfl)
  go_loopw [17] (fun i wr => ∃ k : Nat, k ≤ 6 ∧ i = .int .i64 (k : Int) ∧ WdAt wr wb (stageW nr arch ip args (4 + 2 * k)) ∧ wr.heap[rb]? = some wdZ ∧ Below w.heap.size w wr) (fun i _ => 6 - (intOf i).toNat)
  case atStart => exact ⟨0, by decide, rfl, H4.out.2.2.1, H4.out.2.1, H4.out.2.2.2⟩
  case round =>
    obtain ⟨k, hk, rfl, hwd, hrb, hb⟩ := hrel
    have HR := Lib.hid (And.intro hwd (And.intro hrb hb))
    clear hwd hrb hb e3 e4 e5 e6 e7 e8 H3 H4
    by_cases hlt : k < 6
    · rcases (by omega : k = 0 ∨ k = 1 ∨ k = 2 ∨ k = 3 ∨ k = 4 ∨ k = 5) with rfl | rfl | rfl | rfl | rfl | rfl
      · rw [show ((0 : Nat) : Int) = 0 from rfl]
        have hix : ∀ W : World, (Instr.index 38 (.agg #[.int .u64 (args 0 : Int), .int .u64 (args 1 : Int), .int .u64 (args 2 : Int), .int .u64 (args 3 : Int), .int .u64 (args 4 : Int), .int .u64 (args 5 : Int)]) (.int .i64 0)).run Try.prog W = .ok (.int .u64 (args 0 : Int)) W := fun _ => rfl
        have HA : Hid (∀ W, Calls Try.prog 42 #[.int .i64 0] W fun e w' => e = .returned (.int .i64 16) ∧ w' = W) := Lib.hid (fun W => p_argAtD 0 (by decide) W)
        have HY : Hid (∀ V v, WdAt V wb v → Calls Try.prog 41 #[.pointer (some ⟨wb, 0, none⟩), .int .i64 16, .int .u64 (args 0 : Int)] V fun e w' => e = .returned (.tuple #[]) ∧ WdAt w' wb (fun j => if j = 4 + 1 then BitVec.ofNat 32 (args 0 / 4294967296) else if j = 4 then BitVec.ofNat 32 (args 0) else v j) ∧ V.grownBy w' (some wb)) := Lib.hid (fun V v h => p_wlay h (p := 4) (by decide) (args 0) (h4 0))
        go_wp2_with (first
          | (go_at_call 41; (with_reducible refine (HY.out _ _ HR.out.1).mono ?_); rintro e w3 ⟨rfl, hw3, hg3⟩; have H3 : Hid (WdAt w3 wb (stageW nr arch ip args 6) ∧ w3.heap[rb]? = some wdZ ∧ Below w.heap.size w w3) := Lib.hid ⟨rowIs_congrD hw3 (fun j hj => congrArg (fun z : BitVec 32 => Value.int .u32 (z.toNat : Int)) (stage_next nr arch ip args 0 j (by decide))), (hg3.block rb (Array.getElem?_eq_some_iff.1 HR.out.2.1).1 (fun e => by injection e with e; have := HD.out; omega)).trans HR.out.2.1, below_grown HR.out.2.2 hg3 (by have := HD.out; omega) (Nat.le_refl _)⟩; clear hw3 hg3)
          | (go_at_call 42; (with_reducible refine (HA.out _).mono ?_); rintro e w2 ⟨rfl, rfl⟩))
        exact ⟨⟨1, by decide, by go_num, H3.out.1, H3.out.2.1, H3.out.2.2⟩, by simp [intOf]⟩
      · rw [show ((1 : Nat) : Int) = 1 from rfl]
        have hix : ∀ W : World, (Instr.index 38 (.agg #[.int .u64 (args 0 : Int), .int .u64 (args 1 : Int), .int .u64 (args 2 : Int), .int .u64 (args 3 : Int), .int .u64 (args 4 : Int), .int .u64 (args 5 : Int)]) (.int .i64 1)).run Try.prog W = .ok (.int .u64 (args 1 : Int)) W := fun _ => rfl
        have HA : Hid (∀ W, Calls Try.prog 42 #[.int .i64 1] W fun e w' => e = .returned (.int .i64 24) ∧ w' = W) := Lib.hid (fun W => p_argAtD 1 (by decide) W)
        have HY : Hid (∀ V v, WdAt V wb v → Calls Try.prog 41 #[.pointer (some ⟨wb, 0, none⟩), .int .i64 24, .int .u64 (args 1 : Int)] V fun e w' => e = .returned (.tuple #[]) ∧ WdAt w' wb (fun j => if j = 6 + 1 then BitVec.ofNat 32 (args 1 / 4294967296) else if j = 6 then BitVec.ofNat 32 (args 1) else v j) ∧ V.grownBy w' (some wb)) := Lib.hid (fun V v h => p_wlay h (p := 6) (by decide) (args 1) (h4 1))
        go_wp2_with (first
          | (go_at_call 41; (with_reducible refine (HY.out _ _ HR.out.1).mono ?_); rintro e w3 ⟨rfl, hw3, hg3⟩; have H3 : Hid (WdAt w3 wb (stageW nr arch ip args 8) ∧ w3.heap[rb]? = some wdZ ∧ Below w.heap.size w w3) := Lib.hid ⟨rowIs_congrD hw3 (fun j hj => congrArg (fun z : BitVec 32 => Value.int .u32 (z.toNat : Int)) (stage_next nr arch ip args 1 j (by decide))), (hg3.block rb (Array.getElem?_eq_some_iff.1 HR.out.2.1).1 (fun e => by injection e with e; have := HD.out; omega)).trans HR.out.2.1, below_grown HR.out.2.2 hg3 (by have := HD.out; omega) (Nat.le_refl _)⟩; clear hw3 hg3)
          | (go_at_call 42; (with_reducible refine (HA.out _).mono ?_); rintro e w2 ⟨rfl, rfl⟩))
        exact ⟨⟨2, by decide, by go_num, H3.out.1, H3.out.2.1, H3.out.2.2⟩, by simp [intOf]⟩
      · rw [show ((2 : Nat) : Int) = 2 from rfl]
        have hix : ∀ W : World, (Instr.index 38 (.agg #[.int .u64 (args 0 : Int), .int .u64 (args 1 : Int), .int .u64 (args 2 : Int), .int .u64 (args 3 : Int), .int .u64 (args 4 : Int), .int .u64 (args 5 : Int)]) (.int .i64 2)).run Try.prog W = .ok (.int .u64 (args 2 : Int)) W := fun _ => rfl
        have HA : Hid (∀ W, Calls Try.prog 42 #[.int .i64 2] W fun e w' => e = .returned (.int .i64 32) ∧ w' = W) := Lib.hid (fun W => p_argAtD 2 (by decide) W)
        have HY : Hid (∀ V v, WdAt V wb v → Calls Try.prog 41 #[.pointer (some ⟨wb, 0, none⟩), .int .i64 32, .int .u64 (args 2 : Int)] V fun e w' => e = .returned (.tuple #[]) ∧ WdAt w' wb (fun j => if j = 8 + 1 then BitVec.ofNat 32 (args 2 / 4294967296) else if j = 8 then BitVec.ofNat 32 (args 2) else v j) ∧ V.grownBy w' (some wb)) := Lib.hid (fun V v h => p_wlay h (p := 8) (by decide) (args 2) (h4 2))
        go_wp2_with (first
          | (go_at_call 41; (with_reducible refine (HY.out _ _ HR.out.1).mono ?_); rintro e w3 ⟨rfl, hw3, hg3⟩; have H3 : Hid (WdAt w3 wb (stageW nr arch ip args 10) ∧ w3.heap[rb]? = some wdZ ∧ Below w.heap.size w w3) := Lib.hid ⟨rowIs_congrD hw3 (fun j hj => congrArg (fun z : BitVec 32 => Value.int .u32 (z.toNat : Int)) (stage_next nr arch ip args 2 j (by decide))), (hg3.block rb (Array.getElem?_eq_some_iff.1 HR.out.2.1).1 (fun e => by injection e with e; have := HD.out; omega)).trans HR.out.2.1, below_grown HR.out.2.2 hg3 (by have := HD.out; omega) (Nat.le_refl _)⟩; clear hw3 hg3)
          | (go_at_call 42; (with_reducible refine (HA.out _).mono ?_); rintro e w2 ⟨rfl, rfl⟩))
        exact ⟨⟨3, by decide, by go_num, H3.out.1, H3.out.2.1, H3.out.2.2⟩, by simp [intOf]⟩
      · rw [show ((3 : Nat) : Int) = 3 from rfl]
        have hix : ∀ W : World, (Instr.index 38 (.agg #[.int .u64 (args 0 : Int), .int .u64 (args 1 : Int), .int .u64 (args 2 : Int), .int .u64 (args 3 : Int), .int .u64 (args 4 : Int), .int .u64 (args 5 : Int)]) (.int .i64 3)).run Try.prog W = .ok (.int .u64 (args 3 : Int)) W := fun _ => rfl
        have HA : Hid (∀ W, Calls Try.prog 42 #[.int .i64 3] W fun e w' => e = .returned (.int .i64 40) ∧ w' = W) := Lib.hid (fun W => p_argAtD 3 (by decide) W)
        have HY : Hid (∀ V v, WdAt V wb v → Calls Try.prog 41 #[.pointer (some ⟨wb, 0, none⟩), .int .i64 40, .int .u64 (args 3 : Int)] V fun e w' => e = .returned (.tuple #[]) ∧ WdAt w' wb (fun j => if j = 10 + 1 then BitVec.ofNat 32 (args 3 / 4294967296) else if j = 10 then BitVec.ofNat 32 (args 3) else v j) ∧ V.grownBy w' (some wb)) := Lib.hid (fun V v h => p_wlay h (p := 10) (by decide) (args 3) (h4 3))
        go_wp2_with (first
          | (go_at_call 41; (with_reducible refine (HY.out _ _ HR.out.1).mono ?_); rintro e w3 ⟨rfl, hw3, hg3⟩; have H3 : Hid (WdAt w3 wb (stageW nr arch ip args 12) ∧ w3.heap[rb]? = some wdZ ∧ Below w.heap.size w w3) := Lib.hid ⟨rowIs_congrD hw3 (fun j hj => congrArg (fun z : BitVec 32 => Value.int .u32 (z.toNat : Int)) (stage_next nr arch ip args 3 j (by decide))), (hg3.block rb (Array.getElem?_eq_some_iff.1 HR.out.2.1).1 (fun e => by injection e with e; have := HD.out; omega)).trans HR.out.2.1, below_grown HR.out.2.2 hg3 (by have := HD.out; omega) (Nat.le_refl _)⟩; clear hw3 hg3)
          | (go_at_call 42; (with_reducible refine (HA.out _).mono ?_); rintro e w2 ⟨rfl, rfl⟩))
        exact ⟨⟨4, by decide, by go_num, H3.out.1, H3.out.2.1, H3.out.2.2⟩, by simp [intOf]⟩
      · rw [show ((4 : Nat) : Int) = 4 from rfl]
        have hix : ∀ W : World, (Instr.index 38 (.agg #[.int .u64 (args 0 : Int), .int .u64 (args 1 : Int), .int .u64 (args 2 : Int), .int .u64 (args 3 : Int), .int .u64 (args 4 : Int), .int .u64 (args 5 : Int)]) (.int .i64 4)).run Try.prog W = .ok (.int .u64 (args 4 : Int)) W := fun _ => rfl
        have HA : Hid (∀ W, Calls Try.prog 42 #[.int .i64 4] W fun e w' => e = .returned (.int .i64 48) ∧ w' = W) := Lib.hid (fun W => p_argAtD 4 (by decide) W)
        have HY : Hid (∀ V v, WdAt V wb v → Calls Try.prog 41 #[.pointer (some ⟨wb, 0, none⟩), .int .i64 48, .int .u64 (args 4 : Int)] V fun e w' => e = .returned (.tuple #[]) ∧ WdAt w' wb (fun j => if j = 12 + 1 then BitVec.ofNat 32 (args 4 / 4294967296) else if j = 12 then BitVec.ofNat 32 (args 4) else v j) ∧ V.grownBy w' (some wb)) := Lib.hid (fun V v h => p_wlay h (p := 12) (by decide) (args 4) (h4 4))
        go_wp2_with (first
          | (go_at_call 41; (with_reducible refine (HY.out _ _ HR.out.1).mono ?_); rintro e w3 ⟨rfl, hw3, hg3⟩; have H3 : Hid (WdAt w3 wb (stageW nr arch ip args 14) ∧ w3.heap[rb]? = some wdZ ∧ Below w.heap.size w w3) := Lib.hid ⟨rowIs_congrD hw3 (fun j hj => congrArg (fun z : BitVec 32 => Value.int .u32 (z.toNat : Int)) (stage_next nr arch ip args 4 j (by decide))), (hg3.block rb (Array.getElem?_eq_some_iff.1 HR.out.2.1).1 (fun e => by injection e with e; have := HD.out; omega)).trans HR.out.2.1, below_grown HR.out.2.2 hg3 (by have := HD.out; omega) (Nat.le_refl _)⟩; clear hw3 hg3)
          | (go_at_call 42; (with_reducible refine (HA.out _).mono ?_); rintro e w2 ⟨rfl, rfl⟩))
        exact ⟨⟨5, by decide, by go_num, H3.out.1, H3.out.2.1, H3.out.2.2⟩, by simp [intOf]⟩
      · rw [show ((5 : Nat) : Int) = 5 from rfl]
        have hix : ∀ W : World, (Instr.index 38 (.agg #[.int .u64 (args 0 : Int), .int .u64 (args 1 : Int), .int .u64 (args 2 : Int), .int .u64 (args 3 : Int), .int .u64 (args 4 : Int), .int .u64 (args 5 : Int)]) (.int .i64 5)).run Try.prog W = .ok (.int .u64 (args 5 : Int)) W := fun _ => rfl
        have HA : Hid (∀ W, Calls Try.prog 42 #[.int .i64 5] W fun e w' => e = .returned (.int .i64 56) ∧ w' = W) := Lib.hid (fun W => p_argAtD 5 (by decide) W)
        have HY : Hid (∀ V v, WdAt V wb v → Calls Try.prog 41 #[.pointer (some ⟨wb, 0, none⟩), .int .i64 56, .int .u64 (args 5 : Int)] V fun e w' => e = .returned (.tuple #[]) ∧ WdAt w' wb (fun j => if j = 14 + 1 then BitVec.ofNat 32 (args 5 / 4294967296) else if j = 14 then BitVec.ofNat 32 (args 5) else v j) ∧ V.grownBy w' (some wb)) := Lib.hid (fun V v h => p_wlay h (p := 14) (by decide) (args 5) (h4 5))
        go_wp2_with (first
          | (go_at_call 41; (with_reducible refine (HY.out _ _ HR.out.1).mono ?_); rintro e w3 ⟨rfl, hw3, hg3⟩; have H3 : Hid (WdAt w3 wb (stageW nr arch ip args 16) ∧ w3.heap[rb]? = some wdZ ∧ Below w.heap.size w w3) := Lib.hid ⟨rowIs_congrD hw3 (fun j hj => congrArg (fun z : BitVec 32 => Value.int .u32 (z.toNat : Int)) (stage_next nr arch ip args 5 j (by decide))), (hg3.block rb (Array.getElem?_eq_some_iff.1 HR.out.2.1).1 (fun e => by injection e with e; have := HD.out; omega)).trans HR.out.2.1, below_grown HR.out.2.2 hg3 (by have := HD.out; omega) (Nat.le_refl _)⟩; clear hw3 hg3)
          | (go_at_call 42; (with_reducible refine (HA.out _).mono ?_); rintro e w2 ⟨rfl, rfl⟩))
        exact ⟨⟨6, by decide, by go_num, H3.out.1, H3.out.2.1, H3.out.2.2⟩, by simp [intOf]⟩
    · obtain rfl : k = 6 := by omega
      have c0 := World.rowIs.cell HR.out.1 (i := 0) (by decide)
      have c1 := World.rowIs.cell HR.out.1 (i := 1) (by decide)
      have c2 := World.rowIs.cell HR.out.1 (i := 2) (by decide)
      have c3 := World.rowIs.cell HR.out.1 (i := 3) (by decide)
      have c4 := World.rowIs.cell HR.out.1 (i := 4) (by decide)
      have c5 := World.rowIs.cell HR.out.1 (i := 5) (by decide)
      have c6 := World.rowIs.cell HR.out.1 (i := 6) (by decide)
      have c7 := World.rowIs.cell HR.out.1 (i := 7) (by decide)
      have c8 := World.rowIs.cell HR.out.1 (i := 8) (by decide)
      have c9 := World.rowIs.cell HR.out.1 (i := 9) (by decide)
      have c10 := World.rowIs.cell HR.out.1 (i := 10) (by decide)
      have c11 := World.rowIs.cell HR.out.1 (i := 11) (by decide)
      have c12 := World.rowIs.cell HR.out.1 (i := 12) (by decide)
      have c13 := World.rowIs.cell HR.out.1 (i := 13) (by decide)
      have c14 := World.rowIs.cell HR.out.1 (i := 14) (by decide)
      have c15 := World.rowIs.cell HR.out.1 (i := 15) (by decide)
      have y0 := cellD HR.out.2.1 0 rfl
      have y1 := cellD HR.out.2.1 1 rfl
      have y2 := cellD HR.out.2.1 2 rfl
      have y3 := cellD HR.out.2.1 3 rfl
      have y4 := cellD HR.out.2.1 4 rfl
      have y5 := cellD HR.out.2.1 5 rfl
      have y6 := cellD HR.out.2.1 6 rfl
      have y7 := cellD HR.out.2.1 7 rfl
      have y8 := cellD HR.out.2.1 8 rfl
      have y9 := cellD HR.out.2.1 9 rfl
      have y10 := cellD HR.out.2.1 10 rfl
      have y11 := cellD HR.out.2.1 11 rfl
      have y12 := cellD HR.out.2.1 12 rfl
      have y13 := cellD HR.out.2.1 13 rfl
      have y14 := cellD HR.out.2.1 14 rfl
      have y15 := cellD HR.out.2.1 15 rfl
      have z0 := frozenD HR.out.2.1 0
      have z1 := frozenD HR.out.2.1 1
      have z2 := frozenD HR.out.2.1 2
      have z3 := frozenD HR.out.2.1 3
      have z4 := frozenD HR.out.2.1 4
      have z5 := frozenD HR.out.2.1 5
      have z6 := frozenD HR.out.2.1 6
      have z7 := frozenD HR.out.2.1 7
      have z8 := frozenD HR.out.2.1 8
      have z9 := frozenD HR.out.2.1 9
      have z10 := frozenD HR.out.2.1 10
      have z11 := frozenD HR.out.2.1 11
      have z12 := frozenD HR.out.2.1 12
      have z13 := frozenD HR.out.2.1 13
      have z14 := frozenD HR.out.2.1 14
      have z15 := frozenD HR.out.2.1 15
      go_wp2
      (try simp only [Exit.inBlock, Exit.then])
      refine bodyPost_ret (v := wdV (wdB nr arch ip args)) ?_ rfl ⟨rfl, ?_⟩
      · have hst : ∀ j, j < 16 → stageW nr arch ip args (4 + 2 * 6) j = wdB nr arch ip args j := fun j hj => if_pos hj
        rw [results_cell rfl]
        go_simp
      · have hw : w.heap.size ≤ rb := by have := HD.out; omega
        refine Below.setCell (p := ⟨rb, 15, none⟩) (Below.setCell (p := ⟨rb, 14, none⟩) (Below.setCell (p := ⟨rb, 13, none⟩) (Below.setCell (p := ⟨rb, 12, none⟩) (Below.setCell (p := ⟨rb, 11, none⟩) (Below.setCell (p := ⟨rb, 10, none⟩) (Below.setCell (p := ⟨rb, 9, none⟩) (Below.setCell (p := ⟨rb, 8, none⟩) (Below.setCell (p := ⟨rb, 7, none⟩) (Below.setCell (p := ⟨rb, 6, none⟩) (Below.setCell (p := ⟨rb, 5, none⟩) (Below.setCell (p := ⟨rb, 4, none⟩) (Below.setCell (p := ⟨rb, 3, none⟩) (Below.setCell (p := ⟨rb, 2, none⟩) (Below.setCell (p := ⟨rb, 1, none⟩) (Below.setCell (p := ⟨rb, 0, none⟩) (HR.out.2.2) hw _) hw _) hw _) hw _) hw _) hw _) hw _) hw _) hw _) hw _) hw _) hw _) hw _) hw _) hw _) hw _
theorem wd_new (w : World) (v : Nat → BitVec 32) : WdAt (w.alloc (.cells #[.int .u32 ((v 0).toNat : Int), .int .u32 ((v 1).toNat : Int), .int .u32 ((v 2).toNat : Int), .int .u32 ((v 3).toNat : Int), .int .u32 ((v 4).toNat : Int), .int .u32 ((v 5).toNat : Int), .int .u32 ((v 6).toNat : Int), .int .u32 ((v 7).toNat : Int), .int .u32 ((v 8).toNat : Int), .int .u32 ((v 9).toNat : Int), .int .u32 ((v 10).toNat : Int), .int .u32 ((v 11).toNat : Int), .int .u32 ((v 12).toNat : Int), .int .u32 ((v 13).toNat : Int), .int .u32 ((v 14).toNat : Int), .int .u32 ((v 15).toNat : Int)] 60)) w.heap.size v := by
  have := World.rowIs_alloc w #[.int .u32 ((v 0).toNat : Int), .int .u32 ((v 1).toNat : Int), .int .u32 ((v 2).toNat : Int), .int .u32 ((v 3).toNat : Int), .int .u32 ((v 4).toNat : Int), .int .u32 ((v 5).toNat : Int), .int .u32 ((v 6).toNat : Int), .int .u32 ((v 7).toNat : Int), .int .u32 ((v 8).toNat : Int), .int .u32 ((v 9).toNat : Int), .int .u32 ((v 10).toNat : Int), .int .u32 ((v 11).toNat : Int), .int .u32 ((v 12).toNat : Int), .int .u32 ((v 13).toNat : Int), .int .u32 ((v 14).toNat : Int), .int .u32 ((v 15).toNat : Int)] 60 (fun p => .int .u32 ((v p).toNat : Int)) (fun j hj => by
    have hj' : j < 16 := hj
    rcases (by omega : j = 0 ∨ j = 1 ∨ j = 2 ∨ j = 3 ∨ j = 4 ∨ j = 5 ∨ j = 6 ∨ j = 7 ∨ j = 8 ∨ j = 9 ∨ j = 10 ∨ j = 11 ∨ j = 12 ∨ j = 13 ∨ j = 14 ∨ j = 15) with rfl | rfl | rfl | rfl | rfl | rfl | rfl | rfl | rfl | rfl | rfl | rfl | rfl | rfl | rfl | rfl <;> rfl)
  exact this
theorem heap_setD {w : World} {B : Nat} {c : Array Value} {T : TypeId} {z : Nat × Nat} (h : w.heap[B]? = some (.cells c T z)) (i : Nat) (v : Value) : (w.setCell ⟨B, i, none⟩ v).heap[B]? = some (.cells (c.setIfInBounds i v) T z) := by
  unfold World.setCell
  simp only [Array.getElem?_modify, if_true, h]
  rfl
/-- A node written over another. -/
theorem nd_over {W : World} {B : Nat} {x y : Nd} (h : W.heap[B]? = some (ndO x)) : ((((((((W.setCell ⟨B, 0, none⟩ (.bool y.leaf)).setCell ⟨B, 1, none⟩ (.int .u32 (y.word : Int))).setCell ⟨B, 2, none⟩ (.int .i64 y.off)).setCell ⟨B, 3, none⟩ (.int .u32 (y.mask : Int))).setCell ⟨B, 4, none⟩ (.int .i64 y.op)).setCell ⟨B, 5, none⟩ (.int .u32 (y.k : Int))).setCell ⟨B, 6, none⟩ (.int .i64 y.t)).setCell ⟨B, 7, none⟩ (.int .i64 y.f)).heap[B]? = some (ndO y) := by
  have h0 := heap_setD h 0 (.bool y.leaf)
  have h1 := heap_setD h0 1 (.int .u32 (y.word : Int))
  have h2 := heap_setD h1 2 (.int .i64 y.off)
  have h3 := heap_setD h2 3 (.int .u32 (y.mask : Int))
  have h4 := heap_setD h3 4 (.int .i64 y.op)
  have h5 := heap_setD h4 5 (.int .u32 (y.k : Int))
  have h6 := heap_setD h5 6 (.int .i64 y.t)
  have h7 := heap_setD h6 7 (.int .i64 y.f)
  simp only [List.setIfInBounds_toArray, List.set_cons_zero, List.set_cons_succ] at h7
  exact h7
theorem rowIs_otherD {W : World} {b B k n : Nat} {e : TypeId} {F : Nat → Value} (h : W.rowIs b e n F) (hne : b ≠ B) (x : Value) : (W.setCell ⟨B, k, none⟩ x).rowIs b e n F := by
  obtain ⟨cur, hg, hs, hF⟩ := h
  exact ⟨cur, by rw [set_otherD hne]; exact hg, hs, hF⟩
theorem rowIs_otherD8 {W : World} {b B n : Nat} {e : TypeId} {F : Nat → Value} (h : W.rowIs b e n F) (hne : b ≠ B) (x0 x1 x2 x3 x4 x5 x6 x7 : Value) : ((((((((W.setCell ⟨B, 0, none⟩ x0).setCell ⟨B, 1, none⟩ x1).setCell ⟨B, 2, none⟩ x2).setCell ⟨B, 3, none⟩ x3).setCell ⟨B, 4, none⟩ x4).setCell ⟨B, 5, none⟩ x5).setCell ⟨B, 6, none⟩ x6).setCell ⟨B, 7, none⟩ x7).rowIs b e n F :=
  rowIs_otherD (rowIs_otherD (rowIs_otherD (rowIs_otherD (rowIs_otherD (rowIs_otherD (rowIs_otherD (rowIs_otherD h hne _) hne _) hne _) hne _) hne _) hne _) hne _) hne _
theorem below8 {v W : World} {m B : Nat} (h : Below m v W) (hm : m ≤ B) (x0 x1 x2 x3 x4 x5 x6 x7 : Value) : Below m v ((((((((W.setCell ⟨B, 0, none⟩ x0).setCell ⟨B, 1, none⟩ x1).setCell ⟨B, 2, none⟩ x2).setCell ⟨B, 3, none⟩ x3).setCell ⟨B, 4, none⟩ x4).setCell ⟨B, 5, none⟩ x5).setCell ⟨B, 6, none⟩ x6).setCell ⟨B, 7, none⟩ x7) :=
  Below.setCell (p := ⟨B, 7, none⟩) (Below.setCell (p := ⟨B, 6, none⟩) (Below.setCell (p := ⟨B, 5, none⟩) (Below.setCell (p := ⟨B, 4, none⟩) (Below.setCell (p := ⟨B, 3, none⟩) (Below.setCell (p := ⟨B, 2, none⟩) (Below.setCell (p := ⟨B, 1, none⟩) (Below.setCell (p := ⟨B, 0, none⟩) h hm _) hm _) hm _) hm _) hm _) hm _) hm _) hm _
theorem ad_inj {a b c d : Nat} (h : (some ⟨a, b, none⟩ : Option Addr) = some ⟨c, d, none⟩) : a = c ∧ b = d := by
  have := Option.some.inj h; injection this with x y; exact ⟨x, y⟩
/-- A test says the same of the decision's own words. -/
theorem so_is {v word : Nat → BitVec 32} {x : Nd} (ho : 0 ≤ x.off ∧ x.off < 64 ∧ x.off % 4 = 0) (hv : ∀ p, p < 16 → word (4 * p) = v p) : soN x (v (x.off.toNat / 4) &&& BitVec.ofNat 32 x.mask) = holdsN word x := by
  have e : word x.off.toNat = v (x.off.toNat / 4) := by
    rw [← hv (x.off.toNat / 4) (by omega), show 4 * (x.off.toNat / 4) = x.off.toNat by omega]
  unfold soN holdsN
  rw [e]
  by_cases h : x.mask = 4294967295
  · rw [if_pos h, h]
    have : BitVec.ofNat 32 4294967295 = BitVec.allOnes 32 := by decide
    rw [this, BitVec.and_allOnes]
  · rw [if_neg h]
set_option maxHeartbeats 4000000 in
set_option maxRecDepth 100000 in
theorem p_DRun {w : World} {A : Option Addr} {n cap : Nat} {nd : Nat → Nd} (h : NdAt w A n nd) (hc : (chkN nd n).1 = 0) (hB : ∀ i, i < n → NdB (nd i)) (nr arch ip : Nat) (args : Nat → Nat) (h1 : nr < 4294967296) (h2 : arch < 4294967296) (h3 : ip < 18446744073709551616) (h4 : ∀ i, args i < 18446744073709551616)
    (word : Nat → BitVec 32) (hwd : ∀ p, p < 16 → word (4 * p) = wdB nr arch ip args p) :
    Calls Try.prog 9 #[.slice A n cap, .agg #[.int .u32 (nr : Int), .int .u32 (arch : Int), .int .u64 (ip : Int), .int .u64 (args 0 : Int), .int .u64 (args 1 : Int), .int .u64 (args 2 : Int), .int .u64 (args 3 : Int), .int .u64 (args 4 : Int), .int .u64 (args 5 : Int)]] w fun e w' => e = .returned (.tuple #[.int .u32 ((goN nd word n 0).1 : Int), .int .i64 ((goN nd word n 0).2 : Int), .int .i64 0]) ∧ Below w.heap.size w w' := by
  have D := dec_ok hc
  have hpos := D.val.pos
  have hle := D.val.le
  have HC := Lib.hid (fun V (hV : NdAt V A n nd) => p_DCheck V A n cap nd hV)
  rw [hc] at HC
  have HN := Lib.hid (And.intro h (And.intro D (And.intro hB hwd)))
  have HW := Lib.hid (fun V => p_wordsOf nr arch ip args h1 h2 h3 h4 V)
  clear h hc hB hwd D h1 h2 h3 h4
  generalize (chkN nd n).2 = cz at HC
  generalize wdB nr arch ip args = v at HN HW
  go_enter Try.func9, Try.ntmps9
  go_upto_region 5 with (first
    | (go_at_call 19; (with_reducible refine (HW.out _).mono ?_); rintro e w2 ⟨rfl, hb2⟩; have H2 : Hid (Below w.heap.size w w2) := Lib.hid (H1.out.trans (hb2.mono H1.out.size)); clear hb2)
    | (go_at_call 12; (with_reducible refine (HC.out _ (HN.out.1.below (lboxL w _))).mono ?_); rintro e w1 ⟨rfl, hb1⟩; have H1 : Hid (Below w.heap.size w w1) := Lib.hid ((lboxL w _).trans (hb1.mono (by simp))); have HDO : Hid (w1.heap[w.heap.size]? = some (.cells #[.int .u32 (nr : Int), .int .u32 (arch : Int), .int .u64 (ip : Int), .int .u64 (args 0 : Int), .int .u64 (args 1 : Int), .int .u64 (args 2 : Int), .int .u64 (args 3 : Int), .int .u64 (args 4 : Int), .int .u64 (args 5 : Int)] 40)) := Lib.hid ((hb1.block w.heap.size (by simp)).trans (World.alloc_heap_new w _)); have e0 := cellD HDO.out 0 (v := .int .u32 (nr : Int)) rfl; have e1 := cellD HDO.out 1 (v := .int .u32 (arch : Int)) rfl; have e2 := cellD HDO.out 2 (v := .int .u64 (ip : Int)) rfl; have e3 := cellD HDO.out 3 (v := .int .u64 (args 0 : Int)) rfl; have e4 := cellD HDO.out 4 (v := .int .u64 (args 1 : Int)) rfl; have e5 := cellD HDO.out 5 (v := .int .u64 (args 2 : Int)) rfl; have e6 := cellD HDO.out 6 (v := .int .u64 (args 3 : Int)) rfl; have e7 := cellD HDO.out 7 (v := .int .u64 (args 4 : Int)) rfl; have e8 := cellD HDO.out 8 (v := .int .u64 (args 5 : Int)) rfl; clear hb1))
  have H3 : Hid (WdAt (w2.alloc (.cells #[.int .u32 ((v 0).toNat : Int), .int .u32 ((v 1).toNat : Int), .int .u32 ((v 2).toNat : Int), .int .u32 ((v 3).toNat : Int), .int .u32 ((v 4).toNat : Int), .int .u32 ((v 5).toNat : Int), .int .u32 ((v 6).toNat : Int), .int .u32 ((v 7).toNat : Int), .int .u32 ((v 8).toNat : Int), .int .u32 ((v 9).toNat : Int), .int .u32 ((v 10).toNat : Int), .int .u32 ((v 11).toNat : Int), .int .u32 ((v 12).toNat : Int), .int .u32 ((v 13).toNat : Int), .int .u32 ((v 14).toNat : Int), .int .u32 ((v 15).toNat : Int)] 60)) w2.heap.size v ∧ Below w.heap.size w (w2.alloc (.cells #[.int .u32 ((v 0).toNat : Int), .int .u32 ((v 1).toNat : Int), .int .u32 ((v 2).toNat : Int), .int .u32 ((v 3).toNat : Int), .int .u32 ((v 4).toNat : Int), .int .u32 ((v 5).toNat : Int), .int .u32 ((v 6).toNat : Int), .int .u32 ((v 7).toNat : Int), .int .u32 ((v 8).toNat : Int), .int .u32 ((v 9).toNat : Int), .int .u32 ((v 10).toNat : Int), .int .u32 ((v 11).toNat : Int), .int .u32 ((v 12).toNat : Int), .int .u32 ((v 13).toNat : Int), .int .u32 ((v 14).toNat : Int), .int .u32 ((v 15).toNat : Int)] 60)) ∧ w.heap.size ≤ w2.heap.size) := Lib.hid ⟨wd_new w2 v, H2.out.trans ((lboxL w2 _).mono H2.out.size), H2.out.size⟩
  generalize w2.alloc _ = V at H3 ⊢
  generalize w2.heap.size = wb at H3 ⊢
  clear e0 e1 e2 e3 e4 e5 e6 e7 e8
  obtain ⟨ab, ao, rfl, hl, c0, c1, c2, c3, c4, c5, c6, c7⟩ := nd_at (HN.out.1.below H3.out.2.1) hpos
  have H4 : Hid ((V.alloc (ndO (nd 0))).heap[V.heap.size]? = some (ndO (nd 0)) ∧ WdAt (V.alloc (ndO (nd 0))) wb v ∧ Below w.heap.size w (V.alloc (ndO (nd 0))) ∧ w.heap.size ≤ V.heap.size ∧ wb ≠ V.heap.size) := Lib.hid ⟨World.alloc_heap_new V _, rowIs_below H3.out.1 (lboxL V _) (World.rowIs.lt H3.out.1), H3.out.2.1.trans ((lboxL V _).mono H3.out.2.1.size), H3.out.2.1.size, by have := World.rowIs.lt H3.out.1; omega⟩
  have hlt0 : (0 : Int) < (n : Int) := by omega
  simp only [Nat.zero_mul, Nat.add_zero] at c0 c1 c2 c3 c4 c5 c6 c7
  go_wp2
  generalize V.alloc _ = V2 at H4 ⊢
  generalize V.heap.size = nb at H4 ⊢
  clear c0 c1 c2 c3 c4 c5 c6 c7 hl
  go_loopw [11] (fun m wr => ∃ i met f : Nat, i < n ∧ n - i ≤ f ∧ m = .int .i64 (met : Int) ∧ 1 ≤ met ∧ met ≤ i + 1 ∧ goN nd word n 0 = ((goN nd word f i).1, (goN nd word f i).2 + (met - 1)) ∧ wr.heap[nb]? = some (ndO (nd i)) ∧ WdAt wr wb v ∧ Below w.heap.size w wr) (fun m _ => n - (intOf m).toNat)
  case atStart => exact ⟨0, 1, n, hpos, by omega, rfl, Nat.le_refl _, by omega, by simp, H4.out.1, H4.out.2.1, H4.out.2.2.1⟩
  case round =>
    obtain ⟨i, met, f, hi, hf, rfl, hm1, hmi, hgo, hbox, hwa, hbw⟩ := hrel
    have HR := Lib.hid (And.intro hgo (And.intro hbox (And.intro hwa hbw)))
    have e0 := cellD hbox 0 (v := .bool (nd i).leaf) rfl
    have e1 := cellD hbox 1 (v := .int .u32 ((nd i).word : Int)) rfl
    have e2 := cellD hbox 2 (v := .int .i64 (nd i).off) rfl
    have e3 := cellD hbox 3 (v := .int .u32 ((nd i).mask : Int)) rfl
    have e4 := cellD hbox 4 (v := .int .i64 (nd i).op) rfl
    have e5 := cellD hbox 5 (v := .int .u32 ((nd i).k : Int)) rfl
    have e6 := cellD hbox 6 (v := .int .i64 (nd i).t) rfl
    have e7 := cellD hbox 7 (v := .int .i64 (nd i).f) rfl
    clear hgo hbox hwa hbw H3
    obtain ⟨f, rfl⟩ : ∃ f', f = f' + 1 := ⟨f - 1, by omega⟩
    by_cases hlf : (nd i).leaf = true
    · have HGO : Hid (goN nd word n 0 = ((nd i).word, met)) := Lib.hid (by
        rw [HR.out.1, goN, if_pos hlf]; show ((nd i).word, 1 + (met - 1)) = _; congr 1; omega)
      rw [hlf] at e0
      clear hlf
      go_wp2
      go_ret3
      exact ⟨by rw [HGO.out]; rfl, HR.out.2.2.2⟩
    · have hlf' : (nd i).leaf = false := by cases hh : (nd i).leaf; rfl; exact absurd hh hlf
      have hways := HN.out.2.1.val.ways i hi hlf'
      have hoff := HN.out.2.1.off i hi hlf'
      have hb := HN.out.2.2.1 i hi
      have hso := so_is (x := nd i) (v := v) (word := word) hoff HN.out.2.2.2
      obtain ⟨i2, hi2⟩ : ∃ i2 : Nat, wayN word (nd i) = (i2 : Int) := ⟨(wayN word (nd i)).toNat, by unfold wayN; split <;> omega⟩
      have hi2n : i < i2 ∧ i2 < n := by unfold wayN at hi2; split at hi2 <;> omega
      have HWAY : Hid (∀ V', WdAt V' wb v → Calls Try.prog 20 #[.pointer (some ⟨wb, 0, none⟩), .agg #[.bool false, .int .u32 ((nd i).word : Int), .int .i64 (nd i).off, .int .u32 ((nd i).mask : Int), .int .i64 (nd i).op, .int .u32 ((nd i).k : Int), .int .i64 (nd i).t, .int .i64 (nd i).f]] V' fun e w' => e = .returned (.int .i64 (i2 : Int)) ∧ Below V'.heap.size V' w') := Lib.hid (fun V' hV' => by
        have q := p_way hV' (nd i) hb.k hb.mask hoff
        rw [hso] at q
        have e : (if holdsN word (nd i) = true then (nd i).t else (nd i).f) = (i2 : Int) := hi2
        rw [e] at q
        have e2 : ndV (nd i) = .agg #[.bool false, .int .u32 ((nd i).word : Int), .int .i64 (nd i).off, .int .u32 ((nd i).mask : Int), .int .i64 (nd i).op, .int .u32 ((nd i).k : Int), .int .i64 (nd i).t, .int .i64 (nd i).f] := by rw [← hlf']
        rw [e2] at q; exact q)
      have HGO : Hid (goN nd word n 0 = ((goN nd word f i2).1, (goN nd word f i2).2 + (met + 1 - 1))) := Lib.hid (by
        rw [HR.out.1, goN, if_neg hlf, hi2, Int.toNat_natCast]
        show ((goN nd word f i2).1, (goN nd word f i2).2 + 1 + (met - 1)) = _
        congr 1; omega)
      have hlt2 : (i2 : Int) < (n : Int) := by omega
      have hw1 : IntKind.i64.wrap ((met : Int) + 1) = ((met + 1 : Nat) : Int) := by rw [IntWalk.i64_in _ (by omega)]; omega
      rw [hlf'] at e0
      clear hlf hways hoff hb hso hi2
      go_wp2_with (go_at_call 20; (with_reducible refine (HWAY.out _ HR.out.2.2.1).mono ?_); rintro e w3 ⟨rfl, hb3⟩; have H5 : Hid (w3.heap[nb]? = some (ndO (nd i)) ∧ WdAt w3 wb v ∧ Below w.heap.size w w3) := Lib.hid ⟨(hb3.block nb (Array.getElem?_eq_some_iff.1 HR.out.2.1).1).trans HR.out.2.1, rowIs_below HR.out.2.2.1 hb3 (World.rowIs.lt HR.out.2.2.1), HR.out.2.2.2.trans (hb3.mono HR.out.2.2.2.size)⟩; clear hb3; clear e0 e1 e2 e3 e4 e5 e6 e7; have e0 := cellD H5.out.1 0 (v := .bool (nd i).leaf) rfl; have e1 := cellD H5.out.1 1 (v := .int .u32 ((nd i).word : Int)) rfl; have e2 := cellD H5.out.1 2 (v := .int .i64 (nd i).off) rfl; have e3 := cellD H5.out.1 3 (v := .int .u32 ((nd i).mask : Int)) rfl; have e4 := cellD H5.out.1 4 (v := .int .i64 (nd i).op) rfl; have e5 := cellD H5.out.1 5 (v := .int .u32 ((nd i).k : Int)) rfl; have e6 := cellD H5.out.1 6 (v := .int .i64 (nd i).t) rfl; have e7 := cellD H5.out.1 7 (v := .int .i64 (nd i).f) rfl; have z0 := frozenD H5.out.1 0; have z1 := frozenD H5.out.1 1; have z2 := frozenD H5.out.1 2; have z3 := frozenD H5.out.1 3; have z4 := frozenD H5.out.1 4; have z5 := frozenD H5.out.1 5; have z6 := frozenD H5.out.1 6; have z7 := frozenD H5.out.1 7; obtain ⟨ab2, ao2, hab, hl, c0, c1, c2, c3, c4, c5, c6, c7⟩ := nd_at (HN.out.1.below H5.out.2.2) hi2n.2; obtain ⟨rfl, rfl⟩ : ab = ab2 ∧ ao = ao2 := ad_inj hab; clear hab; have hnb := H4.out.2.2.2)
      exact ⟨⟨i2, met + 1, f, hi2n.2, by omega, rfl, by omega, by omega, HGO.out, nd_over H5.out.1, rowIs_otherD8 H5.out.2.1 hnb.2 _ _ _ _ _ _ _ _, below8 H5.out.2.2 hnb.1 _ _ _ _ _ _ _ _⟩, by simp [intOf]; omega⟩
end Go.Proofs.Ytgpjiflgocgolaa
