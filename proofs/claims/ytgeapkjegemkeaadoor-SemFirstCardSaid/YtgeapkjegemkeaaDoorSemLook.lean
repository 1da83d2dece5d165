/-
  The program's look at data: contracts of lookAt, field, IndexFunc, ContainsFunc. Conditions: those that each names.
-/
import Derived.Test.YtgeapkjegemkeaaDoorSemRel
namespace Go.Proofs.YtgeapkjegemkeaaDoor
open Go Go.RowKit
set_option linter.unusedSimpArgs false
set_option linter.unusedVariables false

/-- Data, a look, as values and as blocks. -/
abbrev datV (d : Dat) : Value := .agg #[.int .u32 (d.nr : Int), .int .u32 (d.arch : Int), .int .u64 (d.ip : Int), .int .u64 (d.args 0 : Int), .int .u64 (d.args 1 : Int), .int .u64 (d.args 2 : Int), .int .u64 (d.args 3 : Int), .int .u64 (d.args 4 : Int), .int .u64 (d.args 5 : Int)]
abbrev datO (d : Dat) : Obj := .cells #[.int .u32 (d.nr : Int), .int .u32 (d.arch : Int), .int .u64 (d.ip : Int), .int .u64 (d.args 0 : Int), .int .u64 (d.args 1 : Int), .int .u64 (d.args 2 : Int), .int .u64 (d.args 3 : Int), .int .u64 (d.args 4 : Int), .int .u64 (d.args 5 : Int)] 32
abbrev lookV (d : Dat) (mb : Nat) : Value := .agg #[.int .u32 (d.nr : Int), .int .u32 (d.arch : Int), .int .u64 (d.ip : Int), .int .u64 (d.args 0 : Int), .int .u64 (d.args 1 : Int), .int .u64 (d.args 2 : Int), .int .u64 (d.args 3 : Int), .int .u64 (d.args 4 : Int), .int .u64 (d.args 5 : Int), .map (some mb)]
abbrev lookO (d : Dat) (mb : Nat) : Obj := .cells #[.int .u32 (d.nr : Int), .int .u32 (d.arch : Int), .int .u64 (d.ip : Int), .int .u64 (d.args 0 : Int), .int .u64 (d.args 1 : Int), .int .u64 (d.args 2 : Int), .int .u64 (d.args 3 : Int), .int .u64 (d.args 4 : Int), .int .u64 (d.args 5 : Int), .map (some mb)] 77
set_option maxRecDepth 100000 in
set_option maxHeartbeats 4000000 in
theorem p_field7 (d : Dat) (mb : Nat) (f : Int) (hf : 0 ≤ f ∧ f ≤ 6) (w : World) : Calls Tryd.prog 39 #[lookV d mb, .int .i64 f] w fun e w' => e = .returned (.int .u64 (fieldN d f : Int)) ∧ Below w.heap.size w w' := by
  have HB := Lib.hid (lbox w (lookO d mb))
  have hx := World.alloc_heap_new w (lookO d mb)
  have c2 := cell6 hx 2 rfl
  have c3 := cell6 hx 3 rfl
  have c4 := cell6 hx 4 rfl
  have c5 := cell6 hx 5 rfl
  have c6 := cell6 hx 6 rfl
  have c7 := cell6 hx 7 rfl
  have c8 := cell6 hx 8 rfl
  clear hx
  have : f = 0 ∨ f = 1 ∨ f = 2 ∨ f = 3 ∨ f = 4 ∨ f = 5 ∨ f = 6 := by omega
  clear hf
  rcases this with rfl | rfl | rfl | rfl | rfl | rfl | rfl
  all_goals
    go_enter Tryd.func39, Tryd.ntmps39
    go_wp2
    go_ret
    exact ⟨rfl, HB.out⟩
abbrev lookZ : Obj := .cells #[.int .u32 0, .int .u32 0, .int .u64 0, .int .u64 0, .int .u64 0, .int .u64 0, .int .u64 0, .int .u64 0, .int .u64 0, .map none] 77
theorem RelMap.set {W : World} {b R : Nat} (h : RelMap W b) (hne : b ≠ R) (i : Nat) (u : Value) : RelMap (W.setCell ⟨R, i, none⟩ u) b := by
  obtain ⟨es, clock, hh, hr⟩ := h
  exact ⟨es, clock, (Below.heap_setCell W ⟨R, i, none⟩ u b hne).trans hh, hr⟩
set_option maxRecDepth 100000 in
set_option maxHeartbeats 4000000 in
theorem p_lookAt (d : Dat) (w : World) : Calls Tryd.prog 23 #[datV d] w fun e w' => ∃ mb, e = .returned (lookV d mb) ∧ RelMap w' mb ∧ Below w.heap.size w w' := by
  have hZ : Hid (((w.alloc (datO d)).alloc lookZ).heap[w.heap.size]? = some (datO d) ∧ ((w.alloc (datO d)).alloc lookZ).heap[w.heap.size + 1]? = some lookZ ∧ Below w.heap.size w ((w.alloc (datO d)).alloc lookZ)) := Lib.hid ⟨kept_alloc (World.alloc_heap_new w _) _, (by
    have := World.alloc_heap_new (w.alloc (datO d)) lookZ
    simpa using this), below_of _ _ _ (lbox w _)⟩
  go_enter Tryd.func23, Tryd.ntmps23
  go_wp2
  refine wp_region_held_drew (S := fun _ => True) (by kernel_rfl) trivial (fun _ => ?_)
  have HY : Hid ((((w.alloc (datO d)).alloc lookZ).drew.heap[w.heap.size]? = some (datO d) ∧ ((w.alloc (datO d)).alloc lookZ).drew.heap[w.heap.size + 1]? = some lookZ) ∧ Below w.heap.size w ((w.alloc (datO d)).alloc lookZ).drew) := Lib.hid ⟨⟨hZ.out.1, hZ.out.2.1⟩, below_drawn hZ.out.2.2 1⟩
  clear hZ
  generalize ((w.alloc (datO d)).alloc lookZ).drew = Y at HY ⊢
  have hlY : w.heap.size + 1 < Y.heap.size := (Array.getElem?_eq_some_iff.1 HY.out.1.2).1
  have x0 : Y.cell? ⟨w.heap.size, 0, none⟩ = some (.int .u32 (d.nr : Int)) := cell6 HY.out.1.1 0 rfl
  have x1 : Y.cell? ⟨w.heap.size, 1, none⟩ = some (.int .u32 (d.arch : Int)) := cell6 HY.out.1.1 1 rfl
  have x2 : Y.cell? ⟨w.heap.size, 2, none⟩ = some (.int .u64 (d.ip : Int)) := cell6 HY.out.1.1 2 rfl
  have x3 : Y.cell? ⟨w.heap.size, 3, none⟩ = some (.int .u64 (d.args 0 : Int)) := cell6 HY.out.1.1 3 rfl
  have x4 : Y.cell? ⟨w.heap.size, 4, none⟩ = some (.int .u64 (d.args 1 : Int)) := cell6 HY.out.1.1 4 rfl
  have x5 : Y.cell? ⟨w.heap.size, 5, none⟩ = some (.int .u64 (d.args 2 : Int)) := cell6 HY.out.1.1 5 rfl
  have x6 : Y.cell? ⟨w.heap.size, 6, none⟩ = some (.int .u64 (d.args 3 : Int)) := cell6 HY.out.1.1 6 rfl
  have x7 : Y.cell? ⟨w.heap.size, 7, none⟩ = some (.int .u64 (d.args 4 : Int)) := cell6 HY.out.1.1 7 rfl
  have x8 : Y.cell? ⟨w.heap.size, 8, none⟩ = some (.int .u64 (d.args 5 : Int)) := cell6 HY.out.1.1 8 rfl
  refine wpAnyH_ready (rs := [0, 1]) (by kernel_rfl) (by simp) (AllReadyH.cons rfl (fun K hK => ?_) (AllReadyH.cons rfl (fun K hK => ?_) AllReadyH.nil))
  · go_simp
    refine hK.out _ _ trivial (fun _ => ?_)
    clear hK K
    (try simp only [Act.put, List.setIfInBounds_toArray, List.set_cons_zero, List.set_cons_succ, List.getElem_toArray, List.getElem_cons_zero, List.getElem_cons_succ])
    refine held_one (i := 1) (by kernel_rfl) rfl (fun K hK => ?_)
    go_simp
    go_at_call 36
    refine (p_relations Y).mono ?_
    rintro e w1 ⟨rfl, hm, hb⟩
    have H1 : Hid ((w1.heap[w.heap.size]? = some (datO d) ∧ w1.heap[w.heap.size + 1]? = some lookZ) ∧ RelMap w1 Y.heap.size ∧ Below w.heap.size w w1) := Lib.hid ⟨⟨(hb.block _ (by have := (Array.getElem?_eq_some_iff.1 HY.out.1.1).1; omega)).trans HY.out.1.1, (hb.block _ hlY).trans HY.out.1.2⟩, hm, HY.out.2.trans (hb.mono HY.out.2.size)⟩
    refine hK.out _ _ trivial (fun _ => ?_)
    clear hK K hm hb
    (try simp only [Act.put, List.setIfInBounds_toArray, List.set_cons_zero, List.set_cons_succ, List.getElem_toArray, List.getElem_cons_zero, List.getElem_cons_succ])
    refine wpAnyH_take (i := 2) (v := ?_) rfl (by kernel_rfl) (by kernel_rfl) (by kernel_rfl) (fun _ _ _ h => h) (Or.inl ⟨by rfl, ?_⟩) (by assumption) ?_
    rotate_left
    · intro wS hSw
      (skip)
      go_simp
      all_goals with_reducible rfl
    (try simp only [List.getElem_toArray, List.getElem_cons_zero, List.getElem_cons_succ, Act.put, List.setIfInBounds_toArray, List.set_cons_zero, List.set_cons_succ])
    have hl1 : w.heap.size + 1 < w1.heap.size := (Array.getElem?_eq_some_iff.1 H1.out.1.2).1
    have u0 := cell6 H1.out.1.2 0 rfl
    have y0 := frozen6 H1.out.1.2 0
    have u1 := cell6 H1.out.1.2 1 rfl
    have y1 := frozen6 H1.out.1.2 1
    have u2 := cell6 H1.out.1.2 2 rfl
    have y2 := frozen6 H1.out.1.2 2
    have u3 := cell6 H1.out.1.2 3 rfl
    have y3 := frozen6 H1.out.1.2 3
    have u4 := cell6 H1.out.1.2 4 rfl
    have y4 := frozen6 H1.out.1.2 4
    have u5 := cell6 H1.out.1.2 5 rfl
    have y5 := frozen6 H1.out.1.2 5
    have u6 := cell6 H1.out.1.2 6 rfl
    have y6 := frozen6 H1.out.1.2 6
    have u7 := cell6 H1.out.1.2 7 rfl
    have y7 := frozen6 H1.out.1.2 7
    have u8 := cell6 H1.out.1.2 8 rfl
    have y8 := frozen6 H1.out.1.2 8
    have u9 := cell6 H1.out.1.2 9 rfl
    have y9 := frozen6 H1.out.1.2 9
    refine held_one (i := 3) (by kernel_rfl) rfl (fun K hK => ?_)
    go_simp
    refine hK.out _ _ trivial (fun _ => ?_)
    clear hK K
    refine wpAnyH_done (by kernel_rfl) ?_ _
    go_wp2
    have hne : Y.heap.size ≠ w.heap.size + 1 := by omega
    exact bodyPost_ret (v := lookV d Y.heap.size) (by simp [results, Tryd.results23, go_sem, u0, u1, u2, u3, u4, u5, u6, u7, u8, u9, World.cell?_setCell_same']) rfl ⟨_, rfl, ((((((((((H1.out.2.1.set hne 0 _).set hne 1 _).set hne 2 _).set hne 3 _).set hne 4 _).set hne 5 _).set hne 6 _).set hne 7 _).set hne 8 _).set hne 9 _), ((((((((((H1.out.2.2.setCell (p := ⟨w.heap.size + 1, 0, none⟩) (Nat.le_succ _) _).setCell (p := ⟨w.heap.size + 1, 1, none⟩) (Nat.le_succ _) _).setCell (p := ⟨w.heap.size + 1, 2, none⟩) (Nat.le_succ _) _).setCell (p := ⟨w.heap.size + 1, 3, none⟩) (Nat.le_succ _) _).setCell (p := ⟨w.heap.size + 1, 4, none⟩) (Nat.le_succ _) _).setCell (p := ⟨w.heap.size + 1, 5, none⟩) (Nat.le_succ _) _).setCell (p := ⟨w.heap.size + 1, 6, none⟩) (Nat.le_succ _) _).setCell (p := ⟨w.heap.size + 1, 7, none⟩) (Nat.le_succ _) _).setCell (p := ⟨w.heap.size + 1, 8, none⟩) (Nat.le_succ _) _).setCell (p := ⟨w.heap.size + 1, 9, none⟩) (Nat.le_succ _) _)⟩
  · go_simp
    go_at_call 36
    refine (p_relations Y).mono ?_
    rintro e w1 ⟨rfl, hm, hb⟩
    have H1 : Hid ((w1.heap[w.heap.size]? = some (datO d) ∧ w1.heap[w.heap.size + 1]? = some lookZ) ∧ RelMap w1 Y.heap.size ∧ Below w.heap.size w w1) := Lib.hid ⟨⟨(hb.block _ (by have := (Array.getElem?_eq_some_iff.1 HY.out.1.1).1; omega)).trans HY.out.1.1, (hb.block _ hlY).trans HY.out.1.2⟩, hm, HY.out.2.trans (hb.mono HY.out.2.size)⟩
    refine hK.out _ _ trivial (fun _ => ?_)
    clear hK K hm hb
    (try simp only [Act.put, List.setIfInBounds_toArray, List.set_cons_zero, List.set_cons_succ, List.getElem_toArray, List.getElem_cons_zero, List.getElem_cons_succ])
    have z0 : w1.cell? ⟨w.heap.size, 0, none⟩ = some (.int .u32 (d.nr : Int)) := cell6 H1.out.1.1 0 rfl
    have z1 : w1.cell? ⟨w.heap.size, 1, none⟩ = some (.int .u32 (d.arch : Int)) := cell6 H1.out.1.1 1 rfl
    have z2 : w1.cell? ⟨w.heap.size, 2, none⟩ = some (.int .u64 (d.ip : Int)) := cell6 H1.out.1.1 2 rfl
    have z3 : w1.cell? ⟨w.heap.size, 3, none⟩ = some (.int .u64 (d.args 0 : Int)) := cell6 H1.out.1.1 3 rfl
    have z4 : w1.cell? ⟨w.heap.size, 4, none⟩ = some (.int .u64 (d.args 1 : Int)) := cell6 H1.out.1.1 4 rfl
    have z5 : w1.cell? ⟨w.heap.size, 5, none⟩ = some (.int .u64 (d.args 2 : Int)) := cell6 H1.out.1.1 5 rfl
    have z6 : w1.cell? ⟨w.heap.size, 6, none⟩ = some (.int .u64 (d.args 3 : Int)) := cell6 H1.out.1.1 6 rfl
    have z7 : w1.cell? ⟨w.heap.size, 7, none⟩ = some (.int .u64 (d.args 4 : Int)) := cell6 H1.out.1.1 7 rfl
    have z8 : w1.cell? ⟨w.heap.size, 8, none⟩ = some (.int .u64 (d.args 5 : Int)) := cell6 H1.out.1.1 8 rfl
    refine held_one (i := 0) (by kernel_rfl) rfl (fun K hK => ?_)
    go_simp
    refine hK.out _ _ trivial (fun _ => ?_)
    clear hK K
    (try simp only [Act.put, List.setIfInBounds_toArray, List.set_cons_zero, List.set_cons_succ, List.getElem_toArray, List.getElem_cons_zero, List.getElem_cons_succ])
    refine wpAnyH_take (i := 2) (v := ?_) rfl (by kernel_rfl) (by kernel_rfl) (by kernel_rfl) (fun _ _ _ h => h) (Or.inl ⟨by rfl, ?_⟩) (by assumption) ?_
    rotate_left
    · intro wS hSw
      (skip)
      go_simp
      all_goals with_reducible rfl
    (try simp only [List.getElem_toArray, List.getElem_cons_zero, List.getElem_cons_succ, Act.put, List.setIfInBounds_toArray, List.set_cons_zero, List.set_cons_succ])
    have hl1 : w.heap.size + 1 < w1.heap.size := (Array.getElem?_eq_some_iff.1 H1.out.1.2).1
    have u0 := cell6 H1.out.1.2 0 rfl
    have y0 := frozen6 H1.out.1.2 0
    have u1 := cell6 H1.out.1.2 1 rfl
    have y1 := frozen6 H1.out.1.2 1
    have u2 := cell6 H1.out.1.2 2 rfl
    have y2 := frozen6 H1.out.1.2 2
    have u3 := cell6 H1.out.1.2 3 rfl
    have y3 := frozen6 H1.out.1.2 3
    have u4 := cell6 H1.out.1.2 4 rfl
    have y4 := frozen6 H1.out.1.2 4
    have u5 := cell6 H1.out.1.2 5 rfl
    have y5 := frozen6 H1.out.1.2 5
    have u6 := cell6 H1.out.1.2 6 rfl
    have y6 := frozen6 H1.out.1.2 6
    have u7 := cell6 H1.out.1.2 7 rfl
    have y7 := frozen6 H1.out.1.2 7
    have u8 := cell6 H1.out.1.2 8 rfl
    have y8 := frozen6 H1.out.1.2 8
    have u9 := cell6 H1.out.1.2 9 rfl
    have y9 := frozen6 H1.out.1.2 9
    refine held_one (i := 3) (by kernel_rfl) rfl (fun K hK => ?_)
    go_simp
    refine hK.out _ _ trivial (fun _ => ?_)
    clear hK K
    refine wpAnyH_done (by kernel_rfl) ?_ _
    go_wp2
    have hne : Y.heap.size ≠ w.heap.size + 1 := by omega
    exact bodyPost_ret (v := lookV d Y.heap.size) (by simp [results, Tryd.results23, go_sem, u0, u1, u2, u3, u4, u5, u6, u7, u8, u9, World.cell?_setCell_same']) rfl ⟨_, rfl, ((((((((((H1.out.2.1.set hne 0 _).set hne 1 _).set hne 2 _).set hne 3 _).set hne 4 _).set hne 5 _).set hne 6 _).set hne 7 _).set hne 8 _).set hne 9 _), ((((((((((H1.out.2.2.setCell (p := ⟨w.heap.size + 1, 0, none⟩) (Nat.le_succ _) _).setCell (p := ⟨w.heap.size + 1, 1, none⟩) (Nat.le_succ _) _).setCell (p := ⟨w.heap.size + 1, 2, none⟩) (Nat.le_succ _) _).setCell (p := ⟨w.heap.size + 1, 3, none⟩) (Nat.le_succ _) _).setCell (p := ⟨w.heap.size + 1, 4, none⟩) (Nat.le_succ _) _).setCell (p := ⟨w.heap.size + 1, 5, none⟩) (Nat.le_succ _) _).setCell (p := ⟨w.heap.size + 1, 6, none⟩) (Nat.le_succ _) _).setCell (p := ⟨w.heap.size + 1, 7, none⟩) (Nat.le_succ _) _).setCell (p := ⟨w.heap.size + 1, 8, none⟩) (Nat.le_succ _) _).setCell (p := ⟨w.heap.size + 1, 9, none⟩) (Nat.le_succ _) _)⟩
/-- The first that is so. -/
def firstIx (B : Ex → Bool) : Nat → List Ex → Int
  | _, [] => -1
  | i, e :: l => if B e = true then (i : Int) else firstIx B (i + 1) l
theorem idx_at (B : Ex → Bool) (l : List Ex) (k : Nat) (hk : k < l.length) : firstIx B k (l.drop k) = if B (l.getD k .zero) = true then (k : Int) else firstIx B (k + 1) (l.drop (k + 1)) := by
  rw [List.drop_eq_getElem_cons hk]
  have : l.getD k .zero = l[k] := by rw [List.getD_eq_getElem?_getD, List.getElem?_eq_getElem hk]; rfl
  rw [this, firstIx]
theorem idx_end (B : Ex → Bool) (l : List Ex) (k : Nat) (hk : l.length ≤ k) : firstIx B k (l.drop k) = -1 := by
  rw [List.drop_of_length_le hk, firstIx]
set_option maxRecDepth 100000 in
set_option maxHeartbeats 4000000 in
theorem p_IndexFunc7 (f : Nat) (hE : ∀ args w, (callFunc f args).run Tryd.prog w = .ok (.enter f args) w) (d : Dat) (mb : Nat) (B : Ex → Bool) (l : List Ex) (A : Option Addr) (cap : Nat) (w : World) (hm : RelMap w mb) (h : ExL w (.mk 0 l 0 0 0 0) A cap)
    (hone : ∀ (k : Nat), k < l.length → ∀ (W : World) (A1 : Option Addr) (cap1 : Nat), ExL W (l.getD k .zero) A1 cap1 → RelMap W mb → Calls Tryd.prog f #[lookV d mb, exV (l.getD k .zero) A1 cap1] W fun e w' => e = .returned (.bool (B (l.getD k .zero))) ∧ Below W.heap.size W w') :
    Calls Tryd.prog 51 #[.slice A l.length cap, .func (.func f) #[lookV d mb] #[]] w fun e w' => e = .returned (.int .i64 (firstIx B 0 l)) ∧ Below w.heap.size w w' := by
  have hlen : l.length ≤ maxLen := h.1
  unfold maxLen at hlen
  have HO := Lib.hid hone
  have HEX := Lib.hid (And.intro h hm)
  obtain ⟨g, hg⟩ : ∃ g, g = firstIx B 0 l := ⟨_, rfl⟩
  rw [← hg]
  have HG : Hid (g = firstIx B 0 (l.drop 0)) := Lib.hid hg
  obtain ⟨n, hn⟩ : ∃ n, n = l.length := ⟨_, rfl⟩
  rw [← hn] at hlen ⊢
  have HN := Lib.hid hn
  clear hn hg h hone hm
  go_enter Tryd.func51, Tryd.ntmps51
  go_wp2
  go_loopw [8] (fun i wr => ∃ k : Nat, k ≤ n ∧ i = .int .i64 (k : Int) ∧ g = firstIx B k (l.drop k) ∧ Below w.heap.size w wr) (fun i _ => n - (intOf i).toNat)
  case atStart => exact ⟨0, Nat.zero_le _, rfl, HG.out, Below.refl _ _⟩
  case round =>
    obtain ⟨k, hk, rfl, hgk, hbw⟩ := hrel
    by_cases hlt : k < n
    · have hlt' : (k : Int) < (n : Int) := by omega
      have hw : IntKind.i64.wrap ((k : Int) + 1) = ((k + 1 : Nat) : Int) := by rw [IntWalk.i64_in _ (by omega)]; omega
      have hkl : k < l.length := by have := HN.out; omega
      rw [idx_at B l k hkl] at hgk
      obtain ⟨tb, ob, rfl, htl, A1, cap1, hx1, hc1⟩ := exL_arg (x := .mk 0 l 0 0 0 0) HEX.out.1 k hkl
      have ho := HO.out k hkl
      change ExL w (l.getD k .zero) A1 cap1 at hx1
      change ∀ j u, (exC (l.getD k .zero) A1 cap1)[j]? = some u → w.cell? ⟨tb, ob + k * 6 + j, none⟩ = some u at hc1
      generalize l.getD k .zero = y at hx1 hc1 ho hgk
      have e0 := (hbw.cell (p := ⟨tb, ob + k * 6, none⟩) htl).trans (hc1 0 _ rfl)
      have e1 := (hbw.cell (p := ⟨tb, ob + k * 6 + 1, none⟩) htl).trans (hc1 1 _ rfl)
      have e2 := (hbw.cell (p := ⟨tb, ob + k * 6 + 2, none⟩) htl).trans (hc1 2 _ rfl)
      have e3 := (hbw.cell (p := ⟨tb, ob + k * 6 + 3, none⟩) htl).trans (hc1 3 _ rfl)
      have e4 := (hbw.cell (p := ⟨tb, ob + k * 6 + 4, none⟩) htl).trans (hc1 4 _ rfl)
      have e5 := (hbw.cell (p := ⟨tb, ob + k * 6 + 5, none⟩) htl).trans (hc1 5 _ rfl)
      have HY := Lib.hid (ho wr A1 cap1 (hx1.below hbw) (HEX.out.2.up hbw))
      have HBW := Lib.hid hbw
      clear hx1 hc1 hbw ho
      generalize hb : B y = bv at HY hgk
      clear hb
      cases bv with
      | true =>
        have HGK : Hid (g = (k : Int)) := Lib.hid hgk
        clear hgk
        go_wp2
        refine HY.out.mono ?_
        rintro e w2 ⟨rfl, hb2⟩
        have HB2 := Lib.hid (HBW.out.trans (hb2.mono HBW.out.size))
        clear hb2
        go_wp2
        go_ret
        exact ⟨by rw [HGK.out]; rfl, HB2.out⟩
      | false =>
        have HGK : Hid (g = firstIx B (k + 1) (l.drop (k + 1))) := Lib.hid hgk
        clear hgk
        go_wp2
        refine HY.out.mono ?_
        rintro e w2 ⟨rfl, hb2⟩
        have HB2 := Lib.hid (HBW.out.trans (hb2.mono HBW.out.size))
        clear hb2
        go_wp2
        exact ⟨⟨k + 1, by omega, by go_num, HGK.out, HB2.out⟩, by simp [intOf]; omega⟩
    · have hlt' : ¬ (k : Int) < (n : Int) := by omega
      rw [idx_end B l k (by have := HN.out; omega)] at hgk
      have HGK := Lib.hid hgk
      have HBW := Lib.hid hbw
      clear hgk hbw
      go_wp2
      go_ret
      exact ⟨by rw [HGK.out]; rfl, HBW.out⟩
end Go.Proofs.YtgeapkjegemkeaaDoor
