/-
  Nodes with a chain of tests put ahead of them, as the statement makes them: some nodes again, in new memory. Conditions: those that each names.
-/
import Derived.Test.YtgpjiflgocgolaaLowPrg
import Derived.Deep.DeepAppendWide
namespace Go.Proofs.Ytgpjiflgocgolaa
open Go Go.RowKit
set_option linter.unusedSimpArgs false
set_option linter.unusedVariables false

theorem u32_wrapG (z : Int) : IntKind.u32.wrap z = (u32N z : Int) := by
  unfold u32N
  have : IntKind.u32.wrap z = z % 4294967296 := rfl
  rw [this]; omega
def ndL (l : List Nd) : List Value := l.flatMap ndC
theorem ndL_append (a b : List Nd) : ndL (a ++ b) = ndL a ++ ndL b := List.flatMap_append
theorem ndL_get : ∀ (l : List Nd) (i j : Nat) (x : Nd), l[i]? = some x → j < 8 → (ndL l)[i * 8 + j]? = (ndC x)[j]?
  | [], i, j, x, h, _ => by cases h
  | y :: t, 0, j, x, h, hj => by
    have : y = x := by simpa using h
    subst this
    unfold ndL
    rw [List.flatMap_cons, Nat.zero_mul, Nat.zero_add, List.getElem?_append_left (by show j < 8; exact hj)]
  | y :: t, i + 1, j, x, h, hj => by
    have h' : t[i]? = some x := by simpa using h
    have ih := ndL_get t i j x h' hj
    unfold ndL at ih ⊢
    rw [List.flatMap_cons, List.getElem?_append_right (by show 8 ≤ (i + 1) * 8 + j; omega)]
    have e : (i + 1) * 8 + j - (ndC y).length = i * 8 + j := by show (i + 1) * 8 + j - 8 = _; omega
    rw [e]; exact ih
def ndZ : Nd := ⟨true, 0, 0, 0, 0, 0, 0, 0⟩
theorem nd_of_own {w : World} {B : Nat} {A : Option Addr} {m c : Nat} {l : List Nd} (h : w.ownsRow B 48 8 (.slice A m c) m (ndL l)) (hl : l.length = m) (hm : m ≤ 4000000000000) : NdAt w A m (fun i => l.getD i ndZ) := by
  refine ⟨by unfold maxLen; omega, fun hp => ?_⟩
  obtain ⟨h1, h⟩ := h
  rcases h with ⟨h, h0⟩ | ⟨g, c', cur, hv, hB, hg, hc, hmm, hs, ht⟩
  · omega
  · injection hv with hA _ hcc
    subst hA
    refine ⟨g, 0, rfl, (Array.getElem?_eq_some_iff.1 hg).1, fun i hi j u hj => ?_⟩
    have hj8 : j < 8 := (List.getElem?_eq_some_iff.1 hj).1
    have hx : l[i]? = some (l.getD i ndZ) := by
      rw [List.getD_eq_getElem?_getD, List.getElem?_eq_getElem (by omega)]; rfl
    have hq := ndL_get l i j _ hx hj8
    rw [hj, ← ht] at hq
    rw [List.getElem?_take] at hq
    rw [Nat.zero_add]
    split at hq
    · unfold World.cell?; rw [hg]
      simpa using hq
    · cases hq
theorem info_nd : (Try.prog.info? 48).map (fun i => (i.zero, i.size, i.bytes)) = some (some (.agg #[.bool false, .int .u32 0, .int .i64 0, .int .u32 0, .int .i64 0, .int .u32 0, .int .i64 0, .int .i64 0]), 8, 56) := by kernel_rfl
theorem nd_new (V : World) (x : Nd) : ∀ j u, (ndC x)[j]? = some u → (V.alloc (ndO x)).cell? ((⟨V.heap.size, 0, none⟩ : Addr).add j) = some u := fun j u hj => by
  rw [addr_add, Nat.zero_add]
  exact cellL (World.alloc_heap_new V (ndO x)) j (v := u) (by simpa using hj)
theorem nd_one (x : Nd) : ∀ u ∈ ndC x, u.oneCell' = true := fun u hu => by
  simp only [List.mem_cons, List.not_mem_nil, or_false] at hu
  rcases hu with rfl | rfl | rfl | rfl | rfl | rfl | rfl | rfl <;> rfl
set_option maxHeartbeats 8000000 in
set_option maxRecDepth 100000 in
theorem p_Grown_true (P : Nd → Prop) (hch : ∀ o m p k t f, m < 4294967296 → k < 4294967296 → P ⟨false, 0, o, m, p, k, t, f⟩) (hmv : ∀ l wo o m p k t f t' f', P ⟨l, wo, o, m, p, k, t, f⟩ → P ⟨l, wo, o, m, p, k, t', f'⟩) {W : World} {A : Option Addr} {n cap : Nat} {nd : Nat → Nd} (h : NdAt W A n nd) (hPn : ∀ i, i < n → P (nd i)) (hn : n ≤ 2513169434843) (many : Nat) (hmany : many < 65536) :
    Calls Try.prog 5 #[.slice A n cap, .int .u16 (many : Int), .bool true] W fun e w' => ∃ A' m' c' nd', e = .returned (.slice A' m' c') ∧ NdAt w' A' m' nd' ∧ (∀ i, i < m' → P (nd' i)) ∧ Below W.heap.size W w' := by
  have HN := Lib.hid h
  have HPP := Lib.hid (And.intro hch (And.intro hmv hPn))
  clear h hch hmv hPn
  have hq : ((many : Int)).tmod 4104 = ((many % 4104 : Nat) : Int) := by
    rw [Int.tmod_eq_emod_of_nonneg (by omega)]; omega
  have hq2 : (many : Int) % 4104 = ((many % 4104 : Nat) : Int) := by omega
  obtain ⟨N, hN⟩ : ∃ N, many % 4104 = N := ⟨_, rfl⟩
  have hN4 : N < 4104 := by omega
  rw [hN] at hq hq2
  clear hN
  go_enter Try.func5, Try.ntmps5
  go_wp2
  go_loopw [8, 9] (fun s i wr => ∃ k : Nat, k ≤ N ∧ i = .int .i64 (k : Int) ∧ ∃ Ao co mo L, s = .slice Ao mo co ∧ wr.ownsRow W.heap.size 48 8 (.slice Ao mo co) mo (ndL L) ∧ L.length = mo ∧ mo = k ∧ (∀ x ∈ L, P x) ∧ Below W.heap.size W wr) (fun _ i _ => N - (intOf i).toNat)
  case atStart => exact ⟨0, by omega, rfl, none, 0, 0, [], rfl, ⟨rfl, .inl ⟨rfl, rfl⟩⟩, rfl, rfl, fun x hx => (by cases hx), Below.refl _ _⟩
  case round =>
    obtain ⟨k, hk, rfl, Ao, co, mo, L, rfl, ho, hlen, hmk, hpl, hb⟩ := hrel
    have HR := Lib.hid (And.intro ho (And.intro hlen (And.intro hmk (And.intro hpl hb))))
    clear ho hlen hb hmk hpl
    by_cases hlt : k < N
    · have hlt' : (k : Int) < (N : Int) := by omega
      have hw1 : IntKind.i64.wrap ((k : Int) + 1) = ((k + 1 : Nat) : Int) := by rw [IntWalk.i64_in _ (by omega)]; omega
      have hu := u32_wrapG (k : Int)
      have HKU : Hid (u32N (k : Int) < 4294967296) := Lib.hid (by unfold u32N; omega)
      generalize u32N (k : Int) = ku at hu HKU
      have HMB : Hid (mo ≤ 2513169439000) := Lib.hid (by have := HR.out.2.2.1; omega)
      have HB : Hid (∀ o, Below W.heap.size W (wr.alloc o) ∧ (wr.alloc o).ownsRow W.heap.size 48 8 (.slice Ao mo co) mo (ndL L)) := Lib.hid (fun o => ⟨HR.out.2.2.2.2.trans ((lboxL wr o).mono HR.out.2.2.2.2.size), own_below HR.out.1 (lboxL wr o)⟩)
      go_upto_region 14 with fail
      all_goals
        (try generalize (ite _ _ _ : Int) = tt9
         generalize hV : wr.alloc _ = V
         have hbox : ∃ x : Nd, V.heap[wr.heap.size]? = some (ndO x) ∧ P x := by
           rw [← hV]
           first
             | exact ⟨⟨false, 0, _, 4294967295, _, ku, _, _⟩, World.alloc_heap_new _ _, HPP.out.1 _ _ _ _ _ _ (by decide) HKU.out⟩
             | exact ⟨⟨false, 0, _, 16711935, _, ku, _, _⟩, World.alloc_heap_new _ _, HPP.out.1 _ _ _ _ _ _ (by decide) HKU.out⟩
         have HV : Hid (Below W.heap.size W V ∧ V.ownsRow W.heap.size 48 8 (.slice Ao mo co) mo (ndL L)) := Lib.hid (by rw [← hV]; exact HB.out _)
         clear hV HB
         obtain ⟨x, hbox, hpx⟩ := hbox
         have HPX := Lib.hid hpx
         clear hpx
         obtain ⟨leaf9, word9, off9, mask9, op9, kk9, t9, f9⟩ := x
         dsimp only [ndO] at hbox
         have d0 := cellL hbox 0 rfl
         have d1 := cellL hbox 1 rfl
         have d2 := cellL hbox 2 rfl
         have d3 := cellL hbox 3 rfl
         have d4 := cellL hbox 4 rfl
         have d5 := cellL hbox 5 rfl
         have d6 := cellL hbox 6 rfl
         have d7 := cellL hbox 7 rfl
         clear hbox
         go_wp2_with (at_builtin; obtain ⟨i9, hi9, hz9, hs9, hb9⟩ := info_parts6 info_nd; refine wpList_append_own_wide _ rfl (.tmp 66) (.tmp 68) 22 rfl W.heap.size 48 i9 _ 8 56 Try.underlying22 hi9 hz9 hs9 hb9 rfl (by decide) (.slice Ao mo co) mo (ndL L) rfl (own_below HV.out.2 (lboxL _ _)) ⟨V.heap.size, 0, none⟩ 1 1 (ndC ⟨leaf9, word9, off9, mask9, op9, kk9, t9, f9⟩) rfl rfl (nd_new _ _) (nd_one _) (by have := HMB.out; unfold maxLen; omega) (by have := HMB.out; omega) (Nat.le_trans HV.out.1.size (lboxL _ _).size) ?_; intro v' V9 ho hg hb; obtain ⟨A9, c9, rfl⟩ := own_formL ho; have H9 : Hid (V9.ownsRow W.heap.size 48 8 (.slice A9 (mo + 1) c9) (mo + 1) (ndL (L ++ [⟨leaf9, word9, off9, mask9, op9, kk9, t9, f9⟩])) ∧ Below W.heap.size W V9) := Lib.hid ⟨by rw [ndL_append]; exact ho, below_own (HV.out.1.trans ((lboxL V _).mono HV.out.1.size)) (own_below HV.out.2 (lboxL _ _)) hg (Nat.le_refl _)⟩; clear ho hg hb)
         exact ⟨⟨k + 1, by omega, by go_num, A9, c9, mo + 1, L ++ [⟨leaf9, word9, off9, mask9, op9, kk9, t9, f9⟩], rfl, H9.out.1, by rw [List.length_append, HR.out.2.1]; rfl, by have := HR.out.2.2.1; omega, fun x hx => (by rcases List.mem_append.1 hx with g | g; exact HR.out.2.2.2.1 x g; rw [List.mem_singleton.1 g]; exact HPX.out), H9.out.2⟩, by simp [intOf]; omega⟩)
    · obtain rfl : k = N := by omega
      go_wp2
      go_loopw [8, 11] (fun s i wr => ∃ k2 : Nat, k2 ≤ n ∧ i = .int .i64 (k2 : Int) ∧ ∃ Ao co mo L, s = .slice Ao mo co ∧ wr.ownsRow W.heap.size 48 8 (.slice Ao mo co) mo (ndL L) ∧ L.length = mo ∧ mo = k + k2 ∧ (∀ x ∈ L, P x) ∧ Below W.heap.size W wr) (fun _ i _ => n - (intOf i).toNat)
      case atStart => exact ⟨0, by omega, rfl, Ao, co, mo, L, rfl, HR.out.1, HR.out.2.1, by rw [HR.out.2.2.1]; rfl, HR.out.2.2.2.1, HR.out.2.2.2.2⟩
      case round =>
        obtain ⟨k2, hk2, rfl, Ao, co, mo, L, rfl, ho, hlen, hmk, hpl, hb⟩ := hrel
        have HR := Lib.hid (And.intro ho (And.intro hlen (And.intro hmk (And.intro hpl hb))))
        have HMB : Hid (mo ≤ 2513169439000) := Lib.hid (by omega)
        clear ho hlen hb hmk hpl
        by_cases hlt : k2 < n
        · have hlt' : (k2 : Int) < (n : Int) := by omega
          have hw1 : IntKind.i64.wrap ((k2 : Int) + 1) = ((k2 + 1 : Nat) : Int) := by rw [IntWalk.i64_in _ (by omega)]; omega
          obtain ⟨ab, ao, rfl, hl, c0, c1, c2, c3, c4, c5, c6, c7⟩ := nd_at (HN.out.below HR.out.2.2.2.2) hlt
          have HB : Hid (∀ o, Below W.heap.size W (wr.alloc o) ∧ (wr.alloc o).ownsRow W.heap.size 48 8 (.slice Ao mo co) mo (ndL L)) := Lib.hid (fun o => ⟨HR.out.2.2.2.2.trans ((lboxL wr o).mono HR.out.2.2.2.2.size), own_below HR.out.1 (lboxL wr o)⟩)
          have HPY := Lib.hid (HPP.out.2.2 k2 hlt)
          generalize nd k2 = y at c0 c1 c2 c3 c4 c5 c6 c7 HPY
          obtain ⟨leaf, word, off, mask, op, kk, t, f⟩ := y
          dsimp only at c0 c1 c2 c3 c4 c5 c6 c7
          cases leaf <;> go_upto_region 22 with fail
          all_goals
            (try generalize (ite _ _ _ : Int) = tt9
             generalize hV : wr.alloc _ = V
             have hbox : ∃ x : Nd, V.heap[wr.heap.size]? = some (ndO x) ∧ P x := by
               rw [← hV]
               first
                 | exact ⟨⟨_, _, _, _, _, _, _, _⟩, World.alloc_heap_new _ _, HPP.out.2.1 _ _ _ _ _ _ _ _ _ _ HPY.out⟩
             have HV : Hid (Below W.heap.size W V ∧ V.ownsRow W.heap.size 48 8 (.slice Ao mo co) mo (ndL L)) := Lib.hid (by rw [← hV]; exact HB.out _)
             clear hV HB
             obtain ⟨x, hbox, hpx⟩ := hbox
             have HPX := Lib.hid hpx
             clear hpx
             obtain ⟨leaf9, word9, off9, mask9, op9, kk9, t9, f9⟩ := x
             dsimp only [ndO] at hbox
             have d0 := cellL hbox 0 rfl
             have d1 := cellL hbox 1 rfl
             have d2 := cellL hbox 2 rfl
             have d3 := cellL hbox 3 rfl
             have d4 := cellL hbox 4 rfl
             have d5 := cellL hbox 5 rfl
             have d6 := cellL hbox 6 rfl
             have d7 := cellL hbox 7 rfl
             clear hbox
             go_wp2_with (at_builtin; obtain ⟨i9, hi9, hz9, hs9, hb9⟩ := info_parts6 info_nd; refine wpList_append_own_wide _ rfl (.tmp 97) (.tmp 99) 22 rfl W.heap.size 48 i9 _ 8 56 Try.underlying22 hi9 hz9 hs9 hb9 rfl (by decide) (.slice Ao mo co) mo (ndL L) rfl (own_below HV.out.2 (lboxL _ _)) ⟨V.heap.size, 0, none⟩ 1 1 (ndC ⟨leaf9, word9, off9, mask9, op9, kk9, t9, f9⟩) rfl rfl (nd_new _ _) (nd_one _) (by have := HMB.out; unfold maxLen; omega) (by have := HMB.out; omega) (Nat.le_trans HV.out.1.size (lboxL _ _).size) ?_; intro v' V9 ho hg hb; obtain ⟨A9, c9, rfl⟩ := own_formL ho; have H9 : Hid (V9.ownsRow W.heap.size 48 8 (.slice A9 (mo + 1) c9) (mo + 1) (ndL (L ++ [⟨leaf9, word9, off9, mask9, op9, kk9, t9, f9⟩])) ∧ Below W.heap.size W V9) := Lib.hid ⟨by rw [ndL_append]; exact ho, below_own (HV.out.1.trans ((lboxL V _).mono HV.out.1.size)) (own_below HV.out.2 (lboxL _ _)) hg (Nat.le_refl _)⟩; clear ho hg hb)
             exact ⟨⟨k2 + 1, by omega, by go_num, A9, c9, mo + 1, L ++ [⟨leaf9, word9, off9, mask9, op9, kk9, t9, f9⟩], rfl, H9.out.1, by rw [List.length_append, HR.out.2.1]; rfl, by have := HR.out.2.2.1; omega, fun x hx => (by rcases List.mem_append.1 hx with g | g; exact HR.out.2.2.2.1 x g; rw [List.mem_singleton.1 g]; exact HPX.out), H9.out.2⟩, by simp [intOf]; omega⟩)
        · obtain rfl : k2 = n := by omega
          go_wp2
          go_ret
          exact ⟨_, _, _, _, rfl, nd_of_own HR.out.1 HR.out.2.1 (by have := HMB.out; omega), fun i hi => (by have hi' : i < L.length := by { rw [HR.out.2.1]; exact hi }; rw [List.getD_eq_getElem?_getD, List.getElem?_eq_getElem hi']; exact HR.out.2.2.2.1 _ (List.getElem_mem hi')), HR.out.2.2.2.2⟩
set_option maxHeartbeats 8000000 in
set_option maxRecDepth 100000 in
theorem p_Grown_false (P : Nd → Prop) (hch : ∀ o m p k t f, m < 4294967296 → k < 4294967296 → P ⟨false, 0, o, m, p, k, t, f⟩) (hmv : ∀ l wo o m p k t f t' f', P ⟨l, wo, o, m, p, k, t, f⟩ → P ⟨l, wo, o, m, p, k, t', f'⟩) {W : World} {A : Option Addr} {n cap : Nat} {nd : Nat → Nd} (h : NdAt W A n nd) (hPn : ∀ i, i < n → P (nd i)) (hn : n ≤ 2513169434843) (many : Nat) (hmany : many < 65536) :
    Calls Try.prog 5 #[.slice A n cap, .int .u16 (many : Int), .bool false] W fun e w' => ∃ A' m' c' nd', e = .returned (.slice A' m' c') ∧ NdAt w' A' m' nd' ∧ (∀ i, i < m' → P (nd' i)) ∧ Below W.heap.size W w' := by
  have HN := Lib.hid h
  have HPP := Lib.hid (And.intro hch (And.intro hmv hPn))
  clear h hch hmv hPn
  have hq : ((many : Int)).tmod 4104 = ((many % 4104 : Nat) : Int) := by
    rw [Int.tmod_eq_emod_of_nonneg (by omega)]; omega
  have hq2 : (many : Int) % 4104 = ((many % 4104 : Nat) : Int) := by omega
  obtain ⟨N, hN⟩ : ∃ N, many % 4104 = N := ⟨_, rfl⟩
  have hN4 : N < 4104 := by omega
  rw [hN] at hq hq2
  clear hN
  go_enter Try.func5, Try.ntmps5
  go_wp2
  go_loopw [8, 9] (fun s i wr => ∃ k : Nat, k ≤ N ∧ i = .int .i64 (k : Int) ∧ ∃ Ao co mo L, s = .slice Ao mo co ∧ wr.ownsRow W.heap.size 48 8 (.slice Ao mo co) mo (ndL L) ∧ L.length = mo ∧ mo = k ∧ (∀ x ∈ L, P x) ∧ Below W.heap.size W wr) (fun _ i _ => N - (intOf i).toNat)
  case atStart => exact ⟨0, by omega, rfl, none, 0, 0, [], rfl, ⟨rfl, .inl ⟨rfl, rfl⟩⟩, rfl, rfl, fun x hx => (by cases hx), Below.refl _ _⟩
  case round =>
    obtain ⟨k, hk, rfl, Ao, co, mo, L, rfl, ho, hlen, hmk, hpl, hb⟩ := hrel
    have HR := Lib.hid (And.intro ho (And.intro hlen (And.intro hmk (And.intro hpl hb))))
    clear ho hlen hb hmk hpl
    by_cases hlt : k < N
    · have hlt' : (k : Int) < (N : Int) := by omega
      have hw1 : IntKind.i64.wrap ((k : Int) + 1) = ((k + 1 : Nat) : Int) := by rw [IntWalk.i64_in _ (by omega)]; omega
      have hu := u32_wrapG (k : Int)
      have HKU : Hid (u32N (k : Int) < 4294967296) := Lib.hid (by unfold u32N; omega)
      generalize u32N (k : Int) = ku at hu HKU
      have HMB : Hid (mo ≤ 2513169439000) := Lib.hid (by have := HR.out.2.2.1; omega)
      have HB : Hid (∀ o, Below W.heap.size W (wr.alloc o) ∧ (wr.alloc o).ownsRow W.heap.size 48 8 (.slice Ao mo co) mo (ndL L)) := Lib.hid (fun o => ⟨HR.out.2.2.2.2.trans ((lboxL wr o).mono HR.out.2.2.2.2.size), own_below HR.out.1 (lboxL wr o)⟩)
      go_upto_region 14 with fail
      all_goals
        (try generalize (ite _ _ _ : Int) = tt9
         generalize hV : wr.alloc _ = V
         have hbox : ∃ x : Nd, V.heap[wr.heap.size]? = some (ndO x) ∧ P x := by
           rw [← hV]
           first
             | exact ⟨⟨false, 0, _, 4294967295, _, ku, _, _⟩, World.alloc_heap_new _ _, HPP.out.1 _ _ _ _ _ _ (by decide) HKU.out⟩
             | exact ⟨⟨false, 0, _, 16711935, _, ku, _, _⟩, World.alloc_heap_new _ _, HPP.out.1 _ _ _ _ _ _ (by decide) HKU.out⟩
         have HV : Hid (Below W.heap.size W V ∧ V.ownsRow W.heap.size 48 8 (.slice Ao mo co) mo (ndL L)) := Lib.hid (by rw [← hV]; exact HB.out _)
         clear hV HB
         obtain ⟨x, hbox, hpx⟩ := hbox
         have HPX := Lib.hid hpx
         clear hpx
         obtain ⟨leaf9, word9, off9, mask9, op9, kk9, t9, f9⟩ := x
         dsimp only [ndO] at hbox
         have d0 := cellL hbox 0 rfl
         have d1 := cellL hbox 1 rfl
         have d2 := cellL hbox 2 rfl
         have d3 := cellL hbox 3 rfl
         have d4 := cellL hbox 4 rfl
         have d5 := cellL hbox 5 rfl
         have d6 := cellL hbox 6 rfl
         have d7 := cellL hbox 7 rfl
         clear hbox
         go_wp2_with (at_builtin; obtain ⟨i9, hi9, hz9, hs9, hb9⟩ := info_parts6 info_nd; refine wpList_append_own_wide _ rfl (.tmp 66) (.tmp 68) 22 rfl W.heap.size 48 i9 _ 8 56 Try.underlying22 hi9 hz9 hs9 hb9 rfl (by decide) (.slice Ao mo co) mo (ndL L) rfl (own_below HV.out.2 (lboxL _ _)) ⟨V.heap.size, 0, none⟩ 1 1 (ndC ⟨leaf9, word9, off9, mask9, op9, kk9, t9, f9⟩) rfl rfl (nd_new _ _) (nd_one _) (by have := HMB.out; unfold maxLen; omega) (by have := HMB.out; omega) (Nat.le_trans HV.out.1.size (lboxL _ _).size) ?_; intro v' V9 ho hg hb; obtain ⟨A9, c9, rfl⟩ := own_formL ho; have H9 : Hid (V9.ownsRow W.heap.size 48 8 (.slice A9 (mo + 1) c9) (mo + 1) (ndL (L ++ [⟨leaf9, word9, off9, mask9, op9, kk9, t9, f9⟩])) ∧ Below W.heap.size W V9) := Lib.hid ⟨by rw [ndL_append]; exact ho, below_own (HV.out.1.trans ((lboxL V _).mono HV.out.1.size)) (own_below HV.out.2 (lboxL _ _)) hg (Nat.le_refl _)⟩; clear ho hg hb)
         exact ⟨⟨k + 1, by omega, by go_num, A9, c9, mo + 1, L ++ [⟨leaf9, word9, off9, mask9, op9, kk9, t9, f9⟩], rfl, H9.out.1, by rw [List.length_append, HR.out.2.1]; rfl, by have := HR.out.2.2.1; omega, fun x hx => (by rcases List.mem_append.1 hx with g | g; exact HR.out.2.2.2.1 x g; rw [List.mem_singleton.1 g]; exact HPX.out), H9.out.2⟩, by simp [intOf]; omega⟩)
    · obtain rfl : k = N := by omega
      go_wp2
      go_loopw [8, 11] (fun s i wr => ∃ k2 : Nat, k2 ≤ n ∧ i = .int .i64 (k2 : Int) ∧ ∃ Ao co mo L, s = .slice Ao mo co ∧ wr.ownsRow W.heap.size 48 8 (.slice Ao mo co) mo (ndL L) ∧ L.length = mo ∧ mo = k + k2 ∧ (∀ x ∈ L, P x) ∧ Below W.heap.size W wr) (fun _ i _ => n - (intOf i).toNat)
      case atStart => exact ⟨0, by omega, rfl, Ao, co, mo, L, rfl, HR.out.1, HR.out.2.1, by rw [HR.out.2.2.1]; rfl, HR.out.2.2.2.1, HR.out.2.2.2.2⟩
      case round =>
        obtain ⟨k2, hk2, rfl, Ao, co, mo, L, rfl, ho, hlen, hmk, hpl, hb⟩ := hrel
        have HR := Lib.hid (And.intro ho (And.intro hlen (And.intro hmk (And.intro hpl hb))))
        have HMB : Hid (mo ≤ 2513169439000) := Lib.hid (by omega)
        clear ho hlen hb hmk hpl
        by_cases hlt : k2 < n
        · have hlt' : (k2 : Int) < (n : Int) := by omega
          have hw1 : IntKind.i64.wrap ((k2 : Int) + 1) = ((k2 + 1 : Nat) : Int) := by rw [IntWalk.i64_in _ (by omega)]; omega
          obtain ⟨ab, ao, rfl, hl, c0, c1, c2, c3, c4, c5, c6, c7⟩ := nd_at (HN.out.below HR.out.2.2.2.2) hlt
          have HB : Hid (∀ o, Below W.heap.size W (wr.alloc o) ∧ (wr.alloc o).ownsRow W.heap.size 48 8 (.slice Ao mo co) mo (ndL L)) := Lib.hid (fun o => ⟨HR.out.2.2.2.2.trans ((lboxL wr o).mono HR.out.2.2.2.2.size), own_below HR.out.1 (lboxL wr o)⟩)
          have HPY := Lib.hid (HPP.out.2.2 k2 hlt)
          generalize nd k2 = y at c0 c1 c2 c3 c4 c5 c6 c7 HPY
          obtain ⟨leaf, word, off, mask, op, kk, t, f⟩ := y
          dsimp only at c0 c1 c2 c3 c4 c5 c6 c7
          cases leaf <;> go_upto_region 22 with fail
          all_goals
            (try generalize (ite _ _ _ : Int) = tt9
             generalize hV : wr.alloc _ = V
             have hbox : ∃ x : Nd, V.heap[wr.heap.size]? = some (ndO x) ∧ P x := by
               rw [← hV]
               first
                 | exact ⟨⟨_, _, _, _, _, _, _, _⟩, World.alloc_heap_new _ _, HPP.out.2.1 _ _ _ _ _ _ _ _ _ _ HPY.out⟩
             have HV : Hid (Below W.heap.size W V ∧ V.ownsRow W.heap.size 48 8 (.slice Ao mo co) mo (ndL L)) := Lib.hid (by rw [← hV]; exact HB.out _)
             clear hV HB
             obtain ⟨x, hbox, hpx⟩ := hbox
             have HPX := Lib.hid hpx
             clear hpx
             obtain ⟨leaf9, word9, off9, mask9, op9, kk9, t9, f9⟩ := x
             dsimp only [ndO] at hbox
             have d0 := cellL hbox 0 rfl
             have d1 := cellL hbox 1 rfl
             have d2 := cellL hbox 2 rfl
             have d3 := cellL hbox 3 rfl
             have d4 := cellL hbox 4 rfl
             have d5 := cellL hbox 5 rfl
             have d6 := cellL hbox 6 rfl
             have d7 := cellL hbox 7 rfl
             clear hbox
             go_wp2_with (at_builtin; obtain ⟨i9, hi9, hz9, hs9, hb9⟩ := info_parts6 info_nd; refine wpList_append_own_wide _ rfl (.tmp 97) (.tmp 99) 22 rfl W.heap.size 48 i9 _ 8 56 Try.underlying22 hi9 hz9 hs9 hb9 rfl (by decide) (.slice Ao mo co) mo (ndL L) rfl (own_below HV.out.2 (lboxL _ _)) ⟨V.heap.size, 0, none⟩ 1 1 (ndC ⟨leaf9, word9, off9, mask9, op9, kk9, t9, f9⟩) rfl rfl (nd_new _ _) (nd_one _) (by have := HMB.out; unfold maxLen; omega) (by have := HMB.out; omega) (Nat.le_trans HV.out.1.size (lboxL _ _).size) ?_; intro v' V9 ho hg hb; obtain ⟨A9, c9, rfl⟩ := own_formL ho; have H9 : Hid (V9.ownsRow W.heap.size 48 8 (.slice A9 (mo + 1) c9) (mo + 1) (ndL (L ++ [⟨leaf9, word9, off9, mask9, op9, kk9, t9, f9⟩])) ∧ Below W.heap.size W V9) := Lib.hid ⟨by rw [ndL_append]; exact ho, below_own (HV.out.1.trans ((lboxL V _).mono HV.out.1.size)) (own_below HV.out.2 (lboxL _ _)) hg (Nat.le_refl _)⟩; clear ho hg hb)
             exact ⟨⟨k2 + 1, by omega, by go_num, A9, c9, mo + 1, L ++ [⟨leaf9, word9, off9, mask9, op9, kk9, t9, f9⟩], rfl, H9.out.1, by rw [List.length_append, HR.out.2.1]; rfl, by have := HR.out.2.2.1; omega, fun x hx => (by rcases List.mem_append.1 hx with g | g; exact HR.out.2.2.2.1 x g; rw [List.mem_singleton.1 g]; exact HPX.out), H9.out.2⟩, by simp [intOf]; omega⟩)
        · obtain rfl : k2 = n := by omega
          go_wp2
          go_ret
          exact ⟨_, _, _, _, rfl, nd_of_own HR.out.1 HR.out.2.1 (by have := HMB.out; omega), fun i hi => (by have hi' : i < L.length := by { rw [HR.out.2.1]; exact hi }; rw [List.getD_eq_getElem?_getD, List.getElem?_eq_getElem hi']; exact HR.out.2.2.2.1 _ (List.getElem_mem hi')), HR.out.2.2.2.2⟩
theorem p_GrownP (P : Nd → Prop) (hch : ∀ o m p k t f, m < 4294967296 → k < 4294967296 → P ⟨false, 0, o, m, p, k, t, f⟩) (hmv : ∀ l wo o m p k t f t' f', P ⟨l, wo, o, m, p, k, t, f⟩ → P ⟨l, wo, o, m, p, k, t', f'⟩) {W : World} {A : Option Addr} {n cap : Nat} {nd : Nat → Nd} (h : NdAt W A n nd) (hPn : ∀ i, i < n → P (nd i)) (hn : n ≤ 2513169434843) (many : Nat) (hmany : many < 65536) (side : Bool) :
    Calls Try.prog 5 #[.slice A n cap, .int .u16 (many : Int), .bool side] W fun e w' => ∃ A' m' c' nd', e = .returned (.slice A' m' c') ∧ NdAt w' A' m' nd' ∧ (∀ i, i < m' → P (nd' i)) ∧ Below W.heap.size W w' := by
  cases side
  · exact p_Grown_false P hch hmv h hPn hn many hmany
  · exact p_Grown_true P hch hmv h hPn hn many hmany
end Go.Proofs.Ytgpjiflgocgolaa
