/-
  The document's SameExpr of one expression in two places: true. Condition: that both lie in memory.
-/
import Derived.Test.YtgeapkjegemkeaaGreatDoorPolMem
import Derived.Test.YtgeapkjegemkeaaGreatDoorPolRd
import Derived.Test.YtgeapkjegemkeaaGreatDoorPolPure
import Derived.Test.YtgeapkjegemkeaaGreatDoorRegion
namespace Go.Proofs.YtgeapkjegemkeaaGreatDoor
open Go Go.RowKit
set_option linter.unusedSimpArgs false
set_option linter.unusedVariables false

abbrev exCell (x : Ex) (A : Option Addr) (cap : Nat) : Obj := .cells #[.int .i64 x.op, .slice A x.args.length cap, .int .i64 x.field, .int .u64 (x.mask : Int), .int .i64 x.rel, .int .u64 (x.value : Int)] 39
theorem row_at {w : World} {F : Nat → Prop} {tb : Nat} : ∀ {l : List Ex} {o : Nat} (k : Nat), k < l.length → RowIn w F l tb o → ∃ A cap, ExIn w F (l.getD k .zero) A cap ∧ ∀ j u, (exC (l.getD k .zero) A cap)[j]? = some u → w.cell? ⟨tb, o + k * 6 + j, none⟩ = some u
  | [], _, k, hk, _ => by simp at hk
  | e :: l, o, 0, _, h => by
    obtain ⟨A, cap, h1, h2⟩ := h.1
    exact ⟨A, cap, h1, by simpa using h2⟩
  | e :: l, o, k + 1, hk, h => by
    obtain ⟨A, cap, h1, h2⟩ := row_at (o := o + 6) k (by simpa using hk) h.2
    exact ⟨A, cap, h1, fun j u hj => by have := h2 j u hj; rw [show o + 6 + k * 6 + j = o + (k + 1) * 6 + j by omega] at this; exact this⟩
/-- The arguments of one that has some. -/
theorem ex_args {w : World} {F : Nat → Prop} {x : Ex} {A : Option Addr} {cap : Nat} (h : ExIn w F x A cap) (k : Nat) (hk : k < x.args.length) :
    ∃ tb, A = some ⟨tb, 0, none⟩ ∧ tb < w.heap.size ∧ F tb ∧ ∃ A' cap', ExIn w F (x.args.getD k .zero) A' cap' ∧ ∀ j u, (exC (x.args.getD k .zero) A' cap')[j]? = some u → w.cell? ⟨tb, k * 6 + j, none⟩ = some u := by
  obtain ⟨op, l, f, m, r, v⟩ := x
  rcases h with ⟨h1, _⟩ | ⟨h1, tb, h2, h3, h4, h5⟩
  · rw [show (Ex.mk op l f m r v).args = l from rfl, h1] at hk; simp at hk
  · obtain ⟨A', cap', g1, g2⟩ := row_at k hk h5
    exact ⟨tb, h2, h4, h3, A', cap', g1, fun j u hj => by have := g2 j u hj; rw [show 0 + k * 6 + j = k * 6 + j by omega] at this; exact this⟩
theorem ex_sizeOf (x : Ex) (k : Nat) (hk : k < x.args.length) : SizeOf.sizeOf (x.args.getD k .zero) < SizeOf.sizeOf x := by
  obtain ⟨op, l, f, m, r, v⟩ := x
  have hk' : k < l.length := hk
  have h : l.getD k .zero ∈ l := by
    rw [List.getD_eq_getElem?_getD, List.getElem?_eq_getElem hk']
    exact List.getElem_mem hk'
  have := List.sizeOf_lt_of_mem h
  show SizeOf.sizeOf (l.getD k .zero) < SizeOf.sizeOf (Ex.mk op l f m r v)
  simp only [Ex.mk.sizeOf_spec]
  omega
theorem ex_below {w w' : World} {F : Nat → Prop} {x : Ex} {A : Option Addr} {cap : Nat} (h : ExIn w F x A cap) (hb : Below w.heap.size w w') : ExIn w' F x A cap := h.keep hb.size (fun _ hk => hk) (fun k _ hk => hb.block k hk)
set_option maxHeartbeats 4000000 in
set_option maxRecDepth 100000 in
theorem ref_SameN : ∀ (N : Nat) (x : Ex), SizeOf.sizeOf x < N → SmEx x → ∀ (A : Option Addr) (cap : Nat) (A' : Option Addr) (cap' : Nat) (F F' : Nat → Prop) (W : World), ExIn W F x A cap → ExIn W F' x A' cap' →
    Calls Tryz.prog 20 #[exV x A cap, exV x A' cap'] W fun e w' => e = .returned (.bool true) ∧ Below W.heap.size W w'
  | 0, x, hN, _, _, _, _, _, _, _, _, _, _ => by omega
  | N + 1, x, hN, hsm, A, cap, A', cap', F, F', W, h, h' => by
    have ih := Lib.hid (fun y hy hs A cap A' cap' F F' W h h' => ref_SameN N y hy hs A cap A' cap' F F' W h h')
    have hb := (lbox W (exCell x A cap)).trans ((lbox (W.alloc (exCell x A cap)) (exCell x A' cap')).mono (by simp))
    have hH := Lib.hid (And.intro (ex_below h hb) (ex_below h' hb))
    have hB := Lib.hid hb
    have b0 : ((W.alloc (exCell x A cap)).alloc (exCell x A' cap')).heap[W.heap.size]? = some (exCell x A cap) := (Below.heap_alloc _ _ _ (by simp)).trans (World.alloc_heap_new W _)
    have b1 := World.alloc_heap_new (W.alloc (exCell x A cap)) (exCell x A' cap')
    rw [show (W.alloc (exCell x A cap)).heap.size = W.heap.size + 1 by simp] at b1
    have hX := Lib.hid (And.intro b0 b1)
    have HN := Lib.hid hN
    have HF : Hid (∀ k, k < x.args.length → SizeOf.sizeOf (x.args.getD k .zero) < N) := Lib.hid (fun k hk => by have := ex_sizeOf x k hk; omega)
    clear h h' hb b0 b1 hN
    go_enter Tryz.func20, Tryz.ntmps20
    have hlen := hsm.len
    have HSM := Lib.hid hsm
    generalize hn : x.args.length = n at hlen ⊢
    have HNN := Lib.hid hn
    clear hn hsm
    go_wp2
    go_loopw [5] (fun i wr => ∃ k : Nat, k ≤ n ∧ i = .int .i64 (k : Int) ∧ Below ((W.alloc (exCell x A cap)).alloc (exCell x A' cap')).heap.size ((W.alloc (exCell x A cap)).alloc (exCell x A' cap')) wr) (fun i _ => n - (intOf i).toNat)
    case atStart => exact ⟨0, by omega, rfl, by have := HNN.out; subst this; exact Below.refl _ _⟩
    case round =>
      obtain ⟨k, hk, rfl, hbw⟩ := hrel
      have s2 : ((W.alloc (exCell x A cap)).alloc (exCell x A' cap')).heap.size = W.heap.size + 2 := by simp
      have f0 : wr.heap[W.heap.size]? = some (exCell x A cap) := (hbw.block W.heap.size (by omega)).trans hX.out.1
      have f1 : wr.heap[W.heap.size + 1]? = some (exCell x A' cap') := (hbw.block (W.heap.size + 1) (by omega)).trans hX.out.2
      have c0 : wr.cell? ⟨W.heap.size, 1, none⟩ = some (.slice A n cap) := (cell6 f0 1 rfl).trans (by rw [← HNN.out]; rfl)
      have c1 : wr.cell? ⟨W.heap.size + 1, 1, none⟩ = some (.slice A' n cap') := (cell6 f1 1 rfl).trans (by rw [← HNN.out]; rfl)
      have HBW := Lib.hid hbw
      by_cases hlt : k < n
      · have hlt' : (k : Int) < (n : Int) := by omega
        have hkx : k < x.args.length := by rw [HNN.out]; exact hlt
        obtain ⟨tb, rfl, htl, _, A1, cap1, hx1, hc1⟩ := ex_args hH.out.1 k hkx
        obtain ⟨tb', rfl, htl', _, A2, cap2, hx2, hc2⟩ := ex_args hH.out.2 k hkx
        have hy := HF.out k hkx
        have hys := HSM.out.at_ k hkx
        generalize x.args.getD k .zero = y at hx1 hc1 hx2 hc2 hy hys
        have g1 : ∀ j u, (exC y A1 cap1)[j]? = some u → wr.cell? ⟨tb, k * 6 + j, none⟩ = some u := fun j u hj => (hbw.cell (p := ⟨tb, k * 6 + j, none⟩) htl).trans (hc1 j u hj)
        have g2 : ∀ j u, (exC y A2 cap2)[j]? = some u → wr.cell? ⟨tb', k * 6 + j, none⟩ = some u := fun j u hj => (hbw.cell (p := ⟨tb', k * 6 + j, none⟩) htl').trans (hc2 j u hj)
        have HS := Lib.hid (And.intro c0 (And.intro c1 (And.intro g1 g2)))
        have HI : Hid (∀ V : World, V.heap = wr.heap → Calls Tryz.prog 20 #[exV y A1 cap1, exV y A2 cap2] V fun e w' => e = .returned (.bool true) ∧ Below V.heap.size V w') := Lib.hid fun V hV => ih.out y hy hys A1 cap1 A2 cap2 F F' V ((ex_below hx1 hbw).keep (by rw [hV]; exact Nat.le_refl _) (fun _ h => h) (fun _ _ _ => by rw [hV])) ((ex_below hx2 hbw).keep (by rw [hV]; exact Nat.le_refl _) (fun _ h => h) (fun _ _ _ => by rw [hV]))
        have hl1 : tb < wr.heap.size := Nat.lt_of_lt_of_le htl hbw.size
        have hl2 : tb' < wr.heap.size := Nat.lt_of_lt_of_le htl' hbw.size
        have hl3 : W.heap.size + 1 < wr.heap.size := (Array.getElem?_eq_some_iff.1 f1).1
        clear hx1 hc1 hx2 hc2 hbw g1 g2 hkx hy hys f0 f1
        go_wp2
        refine wp_region_held_drew (S := fun W' => W'.cell? ⟨W.heap.size, 1, none⟩ = some (.slice (some ⟨tb, 0, none⟩) n cap) ∧ W'.cell? ⟨W.heap.size + 1, 1, none⟩ = some (.slice (some ⟨tb', 0, none⟩) n cap') ∧ (∀ j u, (exC y A1 cap1)[j]? = some u → W'.cell? ⟨tb, k * 6 + j, none⟩ = some u) ∧ ∀ j u, (exC y A2 cap2)[j]? = some u → W'.cell? ⟨tb', k * 6 + j, none⟩ = some u) (by kernel_rfl) HS.out (fun hHeld => ?_)
        have hV := HI.out wr.drew rfl
        have HV := Lib.hid hV
        have HBY : Hid (Below ((W.alloc (exCell x (some ⟨tb, 0, none⟩) cap)).alloc (exCell x (some ⟨tb', 0, none⟩) cap')).heap.size ((W.alloc (exCell x (some ⟨tb, 0, none⟩) cap)).alloc (exCell x (some ⟨tb', 0, none⟩) cap')) wr.drew) := Lib.hid (below_drawn HBW.out 1)
        have HSY : Hid (wr.drew.cell? ⟨W.heap.size, 1, none⟩ = some (.slice (some ⟨tb, 0, none⟩) n cap) ∧ wr.drew.cell? ⟨W.heap.size + 1, 1, none⟩ = some (.slice (some ⟨tb', 0, none⟩) n cap') ∧ (∀ j u, (exC y A1 cap1)[j]? = some u → wr.drew.cell? ⟨tb, k * 6 + j, none⟩ = some u) ∧ ∀ j u, (exC y A2 cap2)[j]? = some u → wr.drew.cell? ⟨tb', k * 6 + j, none⟩ = some u) := Lib.hid HS.out
        have hz1 : tb < wr.drew.heap.size := hl1
        have hz2 : tb' < wr.drew.heap.size := hl2
        have hz3 : W.heap.size + 1 < wr.drew.heap.size := hl3
        clear hV HI HBW HS c0 c1 hl1 hl2 hl3
        generalize wr.drew = Y at HV HBY HSY hz1 hz2 hz3 ⊢
        refine wpAnyH_take (i := 0) (v := ?_) rfl (by kernel_rfl) (by kernel_rfl) (by kernel_rfl) (fun _ _ _ h => h) (Or.inl ⟨by rfl, ?_⟩) (by assumption) ?_
        rotate_left
        · intro wS hSw
          (obtain ⟨i0, i1, i2, i3⟩ := hSw; have a0 : wS.cell? ⟨tb, k * 6, none⟩ = some (.int .i64 y.op) := i2 0 _ rfl; have a1 := i2 1 _ rfl; have a2 := i2 2 _ rfl; have a3 := i2 3 _ rfl; have a4 := i2 4 _ rfl; have a5 := i2 5 _ rfl; have b0 : wS.cell? ⟨tb', k * 6, none⟩ = some (.int .i64 y.op) := i3 0 _ rfl; have b1 := i3 1 _ rfl; have b2 := i3 2 _ rfl; have b3 := i3 3 _ rfl; have b4 := i3 4 _ rfl; have b5 := i3 5 _ rfl; clear i2 i3)
          go_simp
          all_goals with_reducible rfl
        (try simp only [List.getElem_toArray, List.getElem_cons_zero, List.getElem_cons_succ, Act.put, List.setIfInBounds_toArray, List.set_cons_zero, List.set_cons_succ])
        refine wpAnyH_take (i := 1) (v := ?_) rfl (by kernel_rfl) (by kernel_rfl) (by kernel_rfl) (fun _ _ _ h => h) (Or.inl ⟨by rfl, ?_⟩) (by assumption) ?_
        rotate_left
        · intro wS hSw
          (obtain ⟨i0, i1, i2, i3⟩ := hSw; have a0 : wS.cell? ⟨tb, k * 6, none⟩ = some (.int .i64 y.op) := i2 0 _ rfl; have a1 := i2 1 _ rfl; have a2 := i2 2 _ rfl; have a3 := i2 3 _ rfl; have a4 := i2 4 _ rfl; have a5 := i2 5 _ rfl; have b0 : wS.cell? ⟨tb', k * 6, none⟩ = some (.int .i64 y.op) := i3 0 _ rfl; have b1 := i3 1 _ rfl; have b2 := i3 2 _ rfl; have b3 := i3 3 _ rfl; have b4 := i3 4 _ rfl; have b5 := i3 5 _ rfl; clear i2 i3)
          go_simp
          all_goals with_reducible rfl
        (try simp only [List.getElem_toArray, List.getElem_cons_zero, List.getElem_cons_succ, Act.put, List.setIfInBounds_toArray, List.set_cons_zero, List.set_cons_succ])
        refine wpAnyH_take (i := 2) (v := ?_) rfl (by kernel_rfl) (by kernel_rfl) (by kernel_rfl) (fun _ _ _ h => h) (Or.inl ⟨by rfl, ?_⟩) (by assumption) ?_
        rotate_left
        · intro wS hSw
          (obtain ⟨i0, i1, i2, i3⟩ := hSw; have a0 : wS.cell? ⟨tb, k * 6, none⟩ = some (.int .i64 y.op) := i2 0 _ rfl; have a1 := i2 1 _ rfl; have a2 := i2 2 _ rfl; have a3 := i2 3 _ rfl; have a4 := i2 4 _ rfl; have a5 := i2 5 _ rfl; have b0 : wS.cell? ⟨tb', k * 6, none⟩ = some (.int .i64 y.op) := i3 0 _ rfl; have b1 := i3 1 _ rfl; have b2 := i3 2 _ rfl; have b3 := i3 3 _ rfl; have b4 := i3 4 _ rfl; have b5 := i3 5 _ rfl; clear i2 i3)
          go_simp
          all_goals with_reducible rfl
        (try simp only [List.getElem_toArray, List.getElem_cons_zero, List.getElem_cons_succ, Act.put, List.setIfInBounds_toArray, List.set_cons_zero, List.set_cons_succ])
        refine wpAnyH_take (i := 3) (v := ?_) rfl (by kernel_rfl) (by kernel_rfl) (by kernel_rfl) (fun _ _ _ h => h) (Or.inl ⟨by rfl, ?_⟩) (by assumption) ?_
        rotate_left
        · intro wS hSw
          (obtain ⟨i0, i1, i2, i3⟩ := hSw; have a0 : wS.cell? ⟨tb, k * 6, none⟩ = some (.int .i64 y.op) := i2 0 _ rfl; have a1 := i2 1 _ rfl; have a2 := i2 2 _ rfl; have a3 := i2 3 _ rfl; have a4 := i2 4 _ rfl; have a5 := i2 5 _ rfl; have b0 : wS.cell? ⟨tb', k * 6, none⟩ = some (.int .i64 y.op) := i3 0 _ rfl; have b1 := i3 1 _ rfl; have b2 := i3 2 _ rfl; have b3 := i3 3 _ rfl; have b4 := i3 4 _ rfl; have b5 := i3 5 _ rfl; clear i2 i3)
          go_simp
          all_goals with_reducible rfl
        (try simp only [List.getElem_toArray, List.getElem_cons_zero, List.getElem_cons_succ, Act.put, List.setIfInBounds_toArray, List.set_cons_zero, List.set_cons_succ])
        refine wpAnyH_take (i := 4) (v := ?_) rfl (by kernel_rfl) (by kernel_rfl) (by kernel_rfl) (fun _ _ _ h => h) (Or.inl ⟨by rfl, ?_⟩) (by assumption) ?_
        rotate_left
        · intro wS hSw
          (obtain ⟨i0, i1, i2, i3⟩ := hSw; have a0 : wS.cell? ⟨tb, k * 6, none⟩ = some (.int .i64 y.op) := i2 0 _ rfl; have a1 := i2 1 _ rfl; have a2 := i2 2 _ rfl; have a3 := i2 3 _ rfl; have a4 := i2 4 _ rfl; have a5 := i2 5 _ rfl; have b0 : wS.cell? ⟨tb', k * 6, none⟩ = some (.int .i64 y.op) := i3 0 _ rfl; have b1 := i3 1 _ rfl; have b2 := i3 2 _ rfl; have b3 := i3 3 _ rfl; have b4 := i3 4 _ rfl; have b5 := i3 5 _ rfl; clear i2 i3)
          go_simp
          all_goals with_reducible rfl
        (try simp only [List.getElem_toArray, List.getElem_cons_zero, List.getElem_cons_succ, Act.put, List.setIfInBounds_toArray, List.set_cons_zero, List.set_cons_succ])
        refine wpAnyH_take (i := 5) (v := ?_) rfl (by kernel_rfl) (by kernel_rfl) (by kernel_rfl) (fun _ _ _ h => h) (Or.inl ⟨by rfl, ?_⟩) (by assumption) ?_
        rotate_left
        · intro wS hSw
          (obtain ⟨i0, i1, i2, i3⟩ := hSw; have a0 : wS.cell? ⟨tb, k * 6, none⟩ = some (.int .i64 y.op) := i2 0 _ rfl; have a1 := i2 1 _ rfl; have a2 := i2 2 _ rfl; have a3 := i2 3 _ rfl; have a4 := i2 4 _ rfl; have a5 := i2 5 _ rfl; have b0 : wS.cell? ⟨tb', k * 6, none⟩ = some (.int .i64 y.op) := i3 0 _ rfl; have b1 := i3 1 _ rfl; have b2 := i3 2 _ rfl; have b3 := i3 3 _ rfl; have b4 := i3 4 _ rfl; have b5 := i3 5 _ rfl; clear i2 i3)
          go_simp
          all_goals with_reducible rfl
        (try simp only [List.getElem_toArray, List.getElem_cons_zero, List.getElem_cons_succ, Act.put, List.setIfInBounds_toArray, List.set_cons_zero, List.set_cons_succ])
        refine wpAnyH_take (i := 6) (v := ?_) rfl (by kernel_rfl) (by kernel_rfl) (by kernel_rfl) (fun _ _ _ h => h) (Or.inl ⟨by rfl, ?_⟩) (by assumption) ?_
        rotate_left
        · intro wS hSw
          (obtain ⟨i0, i1, i2, i3⟩ := hSw; have a0 : wS.cell? ⟨tb, k * 6, none⟩ = some (.int .i64 y.op) := i2 0 _ rfl; have a1 := i2 1 _ rfl; have a2 := i2 2 _ rfl; have a3 := i2 3 _ rfl; have a4 := i2 4 _ rfl; have a5 := i2 5 _ rfl; have b0 : wS.cell? ⟨tb', k * 6, none⟩ = some (.int .i64 y.op) := i3 0 _ rfl; have b1 := i3 1 _ rfl; have b2 := i3 2 _ rfl; have b3 := i3 3 _ rfl; have b4 := i3 4 _ rfl; have b5 := i3 5 _ rfl; clear i2 i3)
          go_simp
          all_goals with_reducible rfl
        (try simp only [List.getElem_toArray, List.getElem_cons_zero, List.getElem_cons_succ, Act.put, List.setIfInBounds_toArray, List.set_cons_zero, List.set_cons_succ])
        refine wpAnyH_take (i := 7) (v := ?_) rfl (by kernel_rfl) (by kernel_rfl) (by kernel_rfl) (fun _ _ _ h => h) (Or.inl ⟨by rfl, ?_⟩) (by assumption) ?_
        rotate_left
        · intro wS hSw
          (obtain ⟨i0, i1, i2, i3⟩ := hSw; have a0 : wS.cell? ⟨tb, k * 6, none⟩ = some (.int .i64 y.op) := i2 0 _ rfl; have a1 := i2 1 _ rfl; have a2 := i2 2 _ rfl; have a3 := i2 3 _ rfl; have a4 := i2 4 _ rfl; have a5 := i2 5 _ rfl; have b0 : wS.cell? ⟨tb', k * 6, none⟩ = some (.int .i64 y.op) := i3 0 _ rfl; have b1 := i3 1 _ rfl; have b2 := i3 2 _ rfl; have b3 := i3 3 _ rfl; have b4 := i3 4 _ rfl; have b5 := i3 5 _ rfl; clear i2 i3)
          go_simp
          all_goals with_reducible rfl
        (try simp only [List.getElem_toArray, List.getElem_cons_zero, List.getElem_cons_succ, Act.put, List.setIfInBounds_toArray, List.set_cons_zero, List.set_cons_succ])
        refine wpAnyH_take (i := 8) (v := ?_) rfl (by kernel_rfl) (by kernel_rfl) (by kernel_rfl) (fun _ _ _ h => h) (Or.inl ⟨by rfl, ?_⟩) (by assumption) ?_
        rotate_left
        · intro wS hSw
          (obtain ⟨i0, i1, i2, i3⟩ := hSw; have a0 : wS.cell? ⟨tb, k * 6, none⟩ = some (.int .i64 y.op) := i2 0 _ rfl; have a1 := i2 1 _ rfl; have a2 := i2 2 _ rfl; have a3 := i2 3 _ rfl; have a4 := i2 4 _ rfl; have a5 := i2 5 _ rfl; have b0 : wS.cell? ⟨tb', k * 6, none⟩ = some (.int .i64 y.op) := i3 0 _ rfl; have b1 := i3 1 _ rfl; have b2 := i3 2 _ rfl; have b3 := i3 3 _ rfl; have b4 := i3 4 _ rfl; have b5 := i3 5 _ rfl; clear i2 i3)
          go_simp
          all_goals with_reducible rfl
        (try simp only [List.getElem_toArray, List.getElem_cons_zero, List.getElem_cons_succ, Act.put, List.setIfInBounds_toArray, List.set_cons_zero, List.set_cons_succ])
        refine wpAnyH_take (i := 9) (v := ?_) rfl (by kernel_rfl) (by kernel_rfl) (by kernel_rfl) (fun _ _ _ h => h) (Or.inl ⟨by rfl, ?_⟩) (by assumption) ?_
        rotate_left
        · intro wS hSw
          (obtain ⟨i0, i1, i2, i3⟩ := hSw; have a0 : wS.cell? ⟨tb, k * 6, none⟩ = some (.int .i64 y.op) := i2 0 _ rfl; have a1 := i2 1 _ rfl; have a2 := i2 2 _ rfl; have a3 := i2 3 _ rfl; have a4 := i2 4 _ rfl; have a5 := i2 5 _ rfl; have b0 : wS.cell? ⟨tb', k * 6, none⟩ = some (.int .i64 y.op) := i3 0 _ rfl; have b1 := i3 1 _ rfl; have b2 := i3 2 _ rfl; have b3 := i3 3 _ rfl; have b4 := i3 4 _ rfl; have b5 := i3 5 _ rfl; clear i2 i3)
          go_simp
          all_goals with_reducible rfl
        (try simp only [List.getElem_toArray, List.getElem_cons_zero, List.getElem_cons_succ, Act.put, List.setIfInBounds_toArray, List.set_cons_zero, List.set_cons_succ])
        refine held_one (i := 10) (by kernel_rfl) rfl (fun K hK => ?_)
        go_simp
        refine HV.out.mono ?_
        rintro e w5 ⟨rfl, hb5⟩
        have HB5 := Lib.hid (HBY.out.trans (hb5.mono HBY.out.size))
        refine hK.out _ _ ⟨(hb5.cell (p := ⟨W.heap.size, 1, none⟩) (show W.heap.size < _ by omega)).trans HSY.out.1, (hb5.cell (p := ⟨W.heap.size + 1, 1, none⟩) hz3).trans HSY.out.2.1, fun j u hj => (hb5.cell (p := ⟨tb, k * 6 + j, none⟩) hz1).trans (HSY.out.2.2.1 j u hj), fun j u hj => (hb5.cell (p := ⟨tb', k * 6 + j, none⟩) hz2).trans (HSY.out.2.2.2 j u hj)⟩ (fun hH2 => ?_)
        clear hK K hb5 hHeld
        refine wpAnyH_take (i := 11) (v := ?_) rfl (by kernel_rfl) (by kernel_rfl) (by kernel_rfl) (fun _ _ _ h => h) (Or.inl ⟨by rfl, ?_⟩) (by assumption) ?_
        rotate_left
        · intro wS hSw
          (skip)
          go_simp
          all_goals with_reducible rfl
        (try simp only [List.getElem_toArray, List.getElem_cons_zero, List.getElem_cons_succ, Act.put, List.setIfInBounds_toArray, List.set_cons_zero, List.set_cons_succ])
        refine wpAnyH_done (by kernel_rfl) ?_ _
        go_wp2
        exact ⟨⟨k + 1, by omega, by go_num, HB5.out⟩, by simp [intOf]; omega⟩
      · go_wp2
        go_ret
        exact ⟨rfl, hB.out.trans (HBW.out.mono (by omega))⟩
end Go.Proofs.YtgeapkjegemkeaaGreatDoor
