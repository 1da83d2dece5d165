/-
  The document's long ways: a contract. Conditions: those that it names.
-/
import Derived.Test.YtfeeainhelegjaaLowRef2
import Derived.Test.YtfeeainhelegjaaLowOut
namespace Go.Proofs.Ytfeeainhelegjaa
open Go Go.RowKit
set_option linter.unusedSimpArgs false
set_option linter.unusedVariables false

theorem info_far : (Try.prog.info? 51).map (fun i => (i.zero, i.size, i.bytes)) = some (some (.agg #[.bool false, .bool false]), 2, 2) := by kernel_rfl
theorem make_far (n : Nat) (hn : n ≤ 4096) (nd : Nat → Nd) : ∃ O : Obj, (∀ w : World, (Instr.makeSlice 47 (.int .i64 (n : Int)) (.int .i64 (n : Int))).run Try.prog w = .ok (.slice (some ⟨w.heap.size, 0, none⟩) n n) (w.alloc O)) ∧
    ∀ w : World, FarAt (w.alloc O) w.heap.size n (iterN nd n 0) := by
  obtain ⟨i, hi, hz, hs, hb⟩ := info_parts6 info_far
  refine ⟨_, fun w => by
    have h := run_make (P := Try.prog) w 47 51 i _ Try.underlying47 hi hz .i64 .i64 n n (by omega) (Int.le_refl _) (by rw [hb]; omega) (by omega)
    simpa only [Int.toNat_natCast, hs] using h, fun w => ?_⟩
  refine ⟨fun _ => .bool false, ?_, fun i hi => ⟨rfl, rfl⟩⟩
  have := World.rowIs_alloc w (madeCells (Value.agg #[.bool false, .bool false]).cells (n * 2)) 51 (fun _ => .bool false) (fun j hj => by
    rw [size_madeCells] at hj
    unfold madeCells
    have h2 : j % 2 < 2 := Nat.mod_lt _ (by decide)
    rcases (by omega : j % 2 = 0 ∨ j % 2 = 1) with e | e <;> simp [hj, Value.cells, e])
  rwa [size_madeCells] at this
theorem FarAt.ways {W : World} {fb n : Nat} {lg lg' : Ways} (h : FarAt W fb n lg) (he : ∀ i, i < n → lg i = lg' i) : FarAt W fb n lg' := by
  obtain ⟨G, hG, g2⟩ := h
  exact ⟨G, hG, fun i hi => by rw [← he i hi]; exact g2 i hi⟩
theorem FarAt.setT {W : World} {fb n : Nat} {lg : Ways} (h : FarAt W fb n lg) (k : Nat) : FarAt (W.setCell ⟨fb, k * 2, none⟩ (.bool true)) fb n (fun i => if i = k then (true, (lg i).2) else lg i) := by
  obtain ⟨G, hG, g2⟩ := h
  refine ⟨_, World.rowIs.set hG (k * 2) _, fun i hi => ?_⟩
  by_cases e : i = k
  · subst e
    exact ⟨by simp, by rw [if_neg (by omega)]; simp [(g2 i hi).2]⟩
  · exact ⟨by rw [if_neg (by omega)]; simp [e, (g2 i hi).1], by rw [if_neg (by omega)]; simp [e, (g2 i hi).2]⟩
theorem FarAt.setF {W : World} {fb n : Nat} {lg : Ways} (h : FarAt W fb n lg) (k : Nat) : FarAt (W.setCell ⟨fb, k * 2 + 1, none⟩ (.bool true)) fb n (fun i => if i = k then ((lg i).1, true) else lg i) := by
  obtain ⟨G, hG, g2⟩ := h
  refine ⟨_, World.rowIs.set hG (k * 2 + 1) _, fun i hi => ?_⟩
  by_cases e : i = k
  · subst e
    exact ⟨by rw [if_neg (by omega)]; simp [(g2 i hi).1], by simp⟩
  · exact ⟨by rw [if_neg (by omega)]; simp [e, (g2 i hi).1], by rw [if_neg (by omega)]; simp [e, (g2 i hi).2]⟩
theorem far_frozen {W : World} {fb n : Nat} {lg : Ways} (h : FarAt W fb n lg) (j : Nat) : W.frozen? ⟨fb, j, none⟩ = false := by
  obtain ⟨G, hG, _⟩ := h
  exact World.rowIs.frozen hG j
theorem cnt_far {W : World} {fb n : Nat} {lg : Ways} (h : FarAt W fb n lg) : ∀ i, i ≤ n → cntW W fb i = cntN lg i
  | 0, _ => rfl
  | i + 1, hi => by
    obtain ⟨g0, g1⟩ := far_cells h (i := i) (by omega)
    rw [cntW, cntN, cnt_far h i (by omega), g0, g1]
    unfold manyN
    cases (lg i).1 <;> cases (lg i).2 <;> rfl
/-- The places, as the document keeps them. -/
def AtC (W : World) (g n : Nat) (nd : Nat → Nd) (lg : Ways) : Prop := g < W.heap.size ∧ ∀ j, j ≤ n → W.cell? ⟨g, j, none⟩ = some (.int .i64 (firstN nd lg j : Int))
theorem AtC.below {W W' : World} {g n : Nat} {nd : Nat → Nd} {lg : Ways} (h : AtC W g n nd lg) (hb : Below W.heap.size W W') : AtC W' g n nd lg :=
  ⟨Nat.lt_of_lt_of_le h.1 hb.size, fun j hj => (hb.cell (p := ⟨g, j, none⟩) h.1).trans (h.2 j hj)⟩
theorem AtC.set {W : World} {g n : Nat} {nd : Nat → Nd} {lg : Ways} {fb k : Nat} {v : Value} (h : AtC W g n nd lg) (hne : g ≠ fb) : AtC (W.setCell ⟨fb, k, none⟩ v) g n nd lg :=
  ⟨by simpa [World.setCell] using h.1, fun j hj => by
    have := h.2 j hj
    unfold World.cell? at this ⊢
    rw [set_other hne]; exact this⟩
theorem beh_at (nd : Nat → Nd) (lg : Ways) (i : Nat) (hl : (nd i).leaf = false) : behN nd lg i = (firstN nd lg i : Int) + (jumpAt (nd i) : Int) + 1 := by
  unfold behN jumpAt
  rw [firstN]
  unfold sizeN
  rw [if_neg (by rw [hl]; decide)]
  split <;> omega
def mixW (nd : Nat → Nd) (n : Nat) (lg : Ways) (k : Nat) : Ways := fun j => if j < k then widerN nd n lg j else lg j
theorem mix_next {nd : Nat → Nd} {n : Nat} {lg : Ways} {k : Nat} {F : Ways} (h1 : F k = widerN nd n lg k) (h2 : ∀ i, i ≠ k → F i = mixW nd n lg k i) : ∀ i, i < n → F i = mixW nd n lg (k + 1) i := by
  intro i _
  by_cases e : i = k
  · subst e; rw [h1]; unfold mixW; rw [if_pos (by omega)]
  · rw [h2 i e]; unfold mixW
    by_cases g : i < k
    · rw [if_pos g, if_pos (by omega)]
    · rw [if_neg g, if_neg (by omega)]
theorem more_next {nd : Nat → Nd} {n : Nat} {lg : Ways} {k : Nat} {c c' : Bool} (h : c = true ↔ ∃ j, j < k ∧ widerN nd n lg j ≠ lg j) (h' : c' = true ↔ (c = true ∨ widerN nd n lg k ≠ lg k)) : c' = true ↔ ∃ j, j < k + 1 ∧ widerN nd n lg j ≠ lg j := by
  rw [h', h]
  constructor
  · rintro (⟨j, g1, g2⟩ | g)
    · exact ⟨j, by omega, g2⟩
    · exact ⟨k, by omega, g⟩
  · rintro ⟨j, g1, g2⟩
    rcases Nat.lt_or_ge j k with q | q
    · exact .inl ⟨j, q, g2⟩
    · obtain rfl : j = k := by omega
      exact .inr g2
set_option maxHeartbeats 8000000 in
set_option maxRecDepth 100000 in
theorem r_Long {W : World} {A : Option Addr} {n cap : Nat} {nd : Nat → Nd} (h : NdAt W A n nd) (hv : ValN nd n) :
    Calls Try.prog 16 #[.slice A n cap] W fun e w' => ∃ fb, e = .returned (.slice (some ⟨fb, 0, none⟩) n n) ∧ W.heap.size ≤ fb ∧ FarAt w' fb n (longN nd n) ∧ Below W.heap.size W w' := by
  have hn := hv.le
  obtain ⟨O, hmk, hfar⟩ := make_far n hn nd
  have HN := Lib.hid (And.intro h hv)
  have H0 := Lib.hid (And.intro (hfar W) (lboxL W O))
  clear h hv hfar
  go_enter Try.func16, Try.ntmps16
  go_wp2
  clear hmk
  have hfW : W.heap.size < (W.alloc O).heap.size := by simp
  generalize W.alloc O = Z0 at H0 hfW ⊢
  go_loopw [4] (fun _ wr => ∃ k : Nat, k ≤ cntN (iterN nd n k) n ∧ FarAt wr W.heap.size n (iterN nd n k) ∧ Below W.heap.size W wr ∧ W.heap.size < wr.heap.size) (fun _ wr => 2 * n - cntW wr W.heap.size n)
  case atStart => exact ⟨0, Nat.zero_le _, H0.out.1, H0.out.2, hfW⟩
  case round =>
    obtain ⟨K, hkc, hfa, hb, hsz⟩ := hrel
    have HR := Lib.hid (And.intro hkc (And.intro hfa (And.intro hb hsz)))
    clear hkc hfa hb hsz H0 hfW
    have HP := Lib.hid (r_places (cap := cap) (HN.out.1.below HR.out.2.2.1) HR.out.2.1 hn)
    have HCN := Lib.hid (cnt_far HR.out.2.1 n (Nat.le_refl _))
    have HWD := Lib.hid (wider_is HN.out.2 K)
    have HIT : Hid (∃ lg, lg = iterN nd n K) := Lib.hid ⟨_, rfl⟩
    go_wp2_with (go_at_call 15; (with_reducible refine HP.out.mono ?_); rintro e w1 ⟨v, rfl, ho, hb1⟩; obtain ⟨g, c9, rfl, hgB, hgl, hgc, hcell⟩ := own_cells ho (by omega); have H1 : Hid (AtC w1 g n nd (iterN nd n K) ∧ FarAt w1 W.heap.size n (iterN nd n K) ∧ Below W.heap.size W w1 ∧ g ≠ W.heap.size ∧ W.heap.size < w1.heap.size) := Lib.hid ⟨⟨hgl, fun j hj => hcell j _ (firL_get nd _ (by omega))⟩, HR.out.2.1.below hb1, HR.out.2.2.1.trans (hb1.mono HR.out.2.2.1.size), by have := HR.out.2.2.2; omega, Nat.lt_of_lt_of_le HR.out.2.2.2 hb1.size⟩; clear ho hb1 hgB hgl hcell)
    go_loopw [5, 6] (fun s i ws => ∃ k : Nat, k ≤ n ∧ i = .int .i64 (k : Int) ∧ ∃ c : Bool, s = .bool c ∧ (c = true ↔ ∃ j, j < k ∧ widerN nd n (iterN nd n K) j ≠ iterN nd n K j) ∧ AtC ws g n nd (iterN nd n K) ∧ FarAt ws W.heap.size n (mixW nd n (iterN nd n K) k) ∧ Below W.heap.size W ws ∧ W.heap.size < ws.heap.size) (fun _ i _ => n - (intOf i).toNat)
    case atStart => exact ⟨0, by omega, rfl, false, rfl, ⟨fun e => (by cases e), fun ⟨j, hj, _⟩ => (by omega)⟩, H1.out.1, H1.out.2.1.ways (fun i hi => by unfold mixW; rw [if_neg (by omega)]), H1.out.2.2.1, H1.out.2.2.2.2⟩
    case round =>
      obtain ⟨k, hk, rfl, c, rfl, hcc, hat, hfa, hb, hsz⟩ := hrel
      have HI := Lib.hid (And.intro hcc (And.intro hat (And.intro hfa (And.intro hb hsz))))
      clear hcc hat hfa hb hsz
      by_cases hlt : k < n
      · have hlt' : (k : Int) < (n : Int) := by omega
        have hlt1 : (k : Int) < (n : Int) + 1 := by omega
        have hw1 : IntKind.i64.wrap ((k : Int) + 1) = ((k + 1 : Nat) : Int) := by rw [IntWalk.i64_in _ (by omega)]; omega
        obtain ⟨ab, ao, rfl, hl, c0, c1, c2, c3, c4, c5, c6, c7⟩ := nd_at (HN.out.1.below HI.out.2.2.2.1) hlt
        by_cases hlf : (nd k).leaf = true
        · rw [hlf] at c0
          have HWN : Hid (widerN nd n (iterN nd n K) k = iterN nd n K k) := Lib.hid (by
            unfold widerN
            have : stepN nd n (iterN nd n K) k = (false, false) := if_neg (fun g => by rw [hlf] at g; exact absurd g.2 (by decide))
            rw [this]; simp)
          clear hlf
          go_wp2
          exact ⟨⟨k + 1, by omega, by go_num, c, rfl, more_next HI.out.1 ⟨fun e => .inl e, fun e => e.elim id (fun q => absurd HWN.out q)⟩, HI.out.2.1, HI.out.2.2.1.ways (mix_next (by rw [HWN.out]; exact if_neg (Nat.lt_irrefl _)) (fun i _ => rfl)), HI.out.2.2.2.1, HI.out.2.2.2.2⟩, by simp [intOf]; omega⟩
        · have hlf' : (nd k).leaf = false := by cases hh : (nd k).leaf; rfl; exact absurd hh hlf
          have hways := HN.out.2.ways k hlt hlf'
          obtain ⟨t, ht⟩ : ∃ t : Nat, (nd k).t = (t : Int) := ⟨(nd k).t.toNat, by omega⟩
          obtain ⟨f, hf⟩ : ∃ f : Nat, (nd k).f = (f : Int) := ⟨(nd k).f.toNat, by omega⟩
          rw [ht] at c6
          rw [hf] at c7
          rw [hlf'] at c0
          have ht1 : (t : Int) < (n : Int) + 1 := by omega
          have hf1 : (f : Int) < (n : Int) + 1 := by omega
          have HTF : Hid (t ≤ n ∧ f ≤ n) := Lib.hid (by omega)
          have l1 := first_le nd (iterN nd n K) k
          have l2 := first_le nd (iterN nd n K) t
          have l3 := first_le nd (iterN nd n K) f
          have HBE : Hid (widerN nd n (iterN nd n K) k = (((iterN nd n K) k).1 || decide (255 < (firstN nd (iterN nd n K) t : Int) - ((firstN nd (iterN nd n K) k + jumpAt (nd k) : Nat) : Int) - 1), ((iterN nd n K) k).2 || decide (255 < (firstN nd (iterN nd n K) f : Int) - ((firstN nd (iterN nd n K) k + jumpAt (nd k) : Nat) : Int) - 1))) := Lib.hid (by
            have hs : stepN nd n (iterN nd n K) k = (decide (255 < overT nd (iterN nd n K) k), decide (255 < overF nd (iterN nd n K) k)) := if_pos ⟨hlt, hlf'⟩
            unfold widerN
            rw [hs]
            unfold overT overF
            rw [beh_at nd _ k hlf', ht, hf, Int.toNat_natCast, Int.toNat_natCast]
            rw [show (firstN nd (iterN nd n K) t : Int) - ((firstN nd (iterN nd n K) k : Int) + (jumpAt (nd k) : Int) + 1) = (firstN nd (iterN nd n K) t : Int) - ((firstN nd (iterN nd n K) k + jumpAt (nd k) : Nat) : Int) - 1 by omega]
            rw [show (firstN nd (iterN nd n K) f : Int) - ((firstN nd (iterN nd n K) k : Int) + (jumpAt (nd k) : Int) + 1) = (firstN nd (iterN nd n K) f : Int) - ((firstN nd (iterN nd n K) k + jumpAt (nd k) : Nat) : Int) - 1 by omega])
          have HJ := Lib.hid (fun V => r_jump (nd k) (firstN nd (iterN nd n K) k) (by omega) V)
          have hjb : jumpAt (nd k) ≤ 2 := by unfold jumpAt; split <;> omega
          obtain ⟨j, hj⟩ : ∃ j, firstN nd (iterN nd n K) k + jumpAt (nd k) = j := ⟨_, rfl⟩
          rw [hj] at HJ HBE
          have hjz : j ≤ 5 * k + 2 := by omega
          clear hj hjb
          have HTT := Lib.hid (And.intro ht hf)
          clear hways ht hf hlf hlf'
          go_upto_region 8 with fail
          rename_i K8 hK8
          refine wp_region_held_drew (S := fun W' => NdAt W' (some ⟨ab, ao, none⟩) n nd ∧ AtC W' g n nd (iterN nd n K)) (by kernel_rfl) ⟨HN.out.1.below HI.out.2.2.2.1.drew, HI.out.2.1.below (below_drawn (Below.refl _ _) 1)⟩ (fun hHeld => ?_)
          have H2 : Hid (NdAt wr.drew (some ⟨ab, ao, none⟩) n nd ∧ AtC wr.drew g n nd (iterN nd n K) ∧ FarAt wr.drew W.heap.size n (mixW nd n (iterN nd n K) k) ∧ Below W.heap.size W wr.drew ∧ W.heap.size < wr.drew.heap.size) := Lib.hid ⟨HN.out.1.below HI.out.2.2.2.1.drew, HI.out.2.1.below (below_drawn (Below.refl _ _) 1), HI.out.2.2.1.below (below_drawn (Below.refl _ _) 1), HI.out.2.2.2.1.drew, HI.out.2.2.2.2⟩
          have HMO := Lib.hid HI.out.1
          generalize wr.drew = Y at H2 hHeld ⊢
          clear HI c0 c1 c2 c3 c4 c5
          refine wpAnyH_take (i := 0) (v := ?_) rfl (by kernel_rfl) (by kernel_rfl) (by kernel_rfl) (fun _ _ _ h => h) (Or.inl ⟨by rfl, ?_⟩) (by assumption) ?_
          rotate_left
          · intro wS hSw
            (obtain ⟨hS1, hS2⟩ := hSw; obtain ⟨ab', ao', hA, hl', d0, d1, d2, d3, d4, d5, d6, d7⟩ := nd_at hS1 hlt; injection hA with hA; injection hA with hA1 hA2; subst hA1; subst hA2; have x0 := hS2.2 k (by omega))
            go_simp
            all_goals with_reducible rfl
          (try simp only [List.getElem_toArray, List.getElem_cons_zero, List.getElem_cons_succ, Act.put, List.setIfInBounds_toArray, List.set_cons_zero, List.set_cons_succ])
          refine wpAnyH_take (i := 1) (v := ?_) rfl (by kernel_rfl) (by kernel_rfl) (by kernel_rfl) (fun _ _ _ h => h) (Or.inl ⟨by rfl, ?_⟩) (by assumption) ?_
          rotate_left
          · intro wS hSw
            (obtain ⟨hS1, hS2⟩ := hSw; obtain ⟨ab', ao', hA, hl', d0, d1, d2, d3, d4, d5, d6, d7⟩ := nd_at hS1 hlt; injection hA with hA; injection hA with hA1 hA2; subst hA1; subst hA2; have x0 := hS2.2 k (by omega))
            go_simp
            all_goals with_reducible rfl
          (try simp only [List.getElem_toArray, List.getElem_cons_zero, List.getElem_cons_succ, Act.put, List.setIfInBounds_toArray, List.set_cons_zero, List.set_cons_succ])
          refine wpAnyH_take (i := 2) (v := ?_) rfl (by kernel_rfl) (by kernel_rfl) (by kernel_rfl) (fun _ _ _ h => h) (Or.inl ⟨by rfl, ?_⟩) (by assumption) ?_
          rotate_left
          · intro wS hSw
            (obtain ⟨hS1, hS2⟩ := hSw; obtain ⟨ab', ao', hA, hl', d0, d1, d2, d3, d4, d5, d6, d7⟩ := nd_at hS1 hlt; injection hA with hA; injection hA with hA1 hA2; subst hA1; subst hA2; have x0 := hS2.2 k (by omega))
            go_simp
            all_goals with_reducible rfl
          (try simp only [List.getElem_toArray, List.getElem_cons_zero, List.getElem_cons_succ, Act.put, List.setIfInBounds_toArray, List.set_cons_zero, List.set_cons_succ])
          refine wpAnyH_take (i := 3) (v := ?_) rfl (by kernel_rfl) (by kernel_rfl) (by kernel_rfl) (fun _ _ _ h => h) (Or.inl ⟨by rfl, ?_⟩) (by assumption) ?_
          rotate_left
          · intro wS hSw
            (obtain ⟨hS1, hS2⟩ := hSw; obtain ⟨ab', ao', hA, hl', d0, d1, d2, d3, d4, d5, d6, d7⟩ := nd_at hS1 hlt; injection hA with hA; injection hA with hA1 hA2; subst hA1; subst hA2; have x0 := hS2.2 k (by omega))
            go_simp
            all_goals with_reducible rfl
          (try simp only [List.getElem_toArray, List.getElem_cons_zero, List.getElem_cons_succ, Act.put, List.setIfInBounds_toArray, List.set_cons_zero, List.set_cons_succ])
          refine wpAnyH_take (i := 4) (v := ?_) rfl (by kernel_rfl) (by kernel_rfl) (by kernel_rfl) (fun _ _ _ h => h) (Or.inl ⟨by rfl, ?_⟩) (by assumption) ?_
          rotate_left
          · intro wS hSw
            (obtain ⟨hS1, hS2⟩ := hSw; obtain ⟨ab', ao', hA, hl', d0, d1, d2, d3, d4, d5, d6, d7⟩ := nd_at hS1 hlt; injection hA with hA; injection hA with hA1 hA2; subst hA1; subst hA2; have x0 := hS2.2 k (by omega))
            go_simp
            all_goals with_reducible rfl
          (try simp only [List.getElem_toArray, List.getElem_cons_zero, List.getElem_cons_succ, Act.put, List.setIfInBounds_toArray, List.set_cons_zero, List.set_cons_succ])
          refine wpAnyH_take (i := 5) (v := ?_) rfl (by kernel_rfl) (by kernel_rfl) (by kernel_rfl) (fun _ _ _ h => h) (Or.inl ⟨by rfl, ?_⟩) (by assumption) ?_
          rotate_left
          · intro wS hSw
            (obtain ⟨hS1, hS2⟩ := hSw; obtain ⟨ab', ao', hA, hl', d0, d1, d2, d3, d4, d5, d6, d7⟩ := nd_at hS1 hlt; injection hA with hA; injection hA with hA1 hA2; subst hA1; subst hA2; have x0 := hS2.2 k (by omega))
            go_simp
            all_goals with_reducible rfl
          (try simp only [List.getElem_toArray, List.getElem_cons_zero, List.getElem_cons_succ, Act.put, List.setIfInBounds_toArray, List.set_cons_zero, List.set_cons_succ])
          refine wpAnyH_take (i := 6) (v := ?_) rfl (by kernel_rfl) (by kernel_rfl) (by kernel_rfl) (fun _ _ _ h => h) (Or.inl ⟨by rfl, ?_⟩) (by assumption) ?_
          rotate_left
          · intro wS hSw
            (obtain ⟨hS1, hS2⟩ := hSw; obtain ⟨ab', ao', hA, hl', d0, d1, d2, d3, d4, d5, d6, d7⟩ := nd_at hS1 hlt; injection hA with hA; injection hA with hA1 hA2; subst hA1; subst hA2; have x0 := hS2.2 k (by omega))
            go_simp
            all_goals with_reducible rfl
          (try simp only [List.getElem_toArray, List.getElem_cons_zero, List.getElem_cons_succ, Act.put, List.setIfInBounds_toArray, List.set_cons_zero, List.set_cons_succ])
          refine wpAnyH_take (i := 7) (v := ?_) rfl (by kernel_rfl) (by kernel_rfl) (by kernel_rfl) (fun _ _ _ h => h) (Or.inl ⟨by rfl, ?_⟩) (by assumption) ?_
          rotate_left
          · intro wS hSw
            (obtain ⟨hS1, hS2⟩ := hSw; obtain ⟨ab', ao', hA, hl', d0, d1, d2, d3, d4, d5, d6, d7⟩ := nd_at hS1 hlt; injection hA with hA; injection hA with hA1 hA2; subst hA1; subst hA2; have x0 := hS2.2 k (by omega))
            go_simp
            all_goals with_reducible rfl
          (try simp only [List.getElem_toArray, List.getElem_cons_zero, List.getElem_cons_succ, Act.put, List.setIfInBounds_toArray, List.set_cons_zero, List.set_cons_succ])
          refine held_one (i := 8) (by kernel_rfl) rfl (fun K' hK' => ?_)
          go_simp
          go_at_call 23
          refine (HJ.out _).mono ?_
          rintro e w2 ⟨rfl, hb2⟩
          have H3 : Hid (NdAt w2 (some ⟨ab, ao, none⟩) n nd ∧ AtC w2 g n nd (iterN nd n K) ∧ FarAt w2 W.heap.size n (mixW nd n (iterN nd n K) k) ∧ Below W.heap.size W w2 ∧ W.heap.size < w2.heap.size) := Lib.hid ⟨H2.out.1.below hb2, H2.out.2.1.below hb2, H2.out.2.2.1.below hb2, H2.out.2.2.2.1.trans (hb2.mono H2.out.2.2.2.1.size), Nat.lt_of_lt_of_le H2.out.2.2.2.2 hb2.size⟩
          clear hHeld
          refine hK'.out _ _ ⟨H3.out.1, H3.out.2.1⟩ (fun hHeld => ?_)
          clear hK' K' hb2 H2
          (try simp only [Act.put, List.setIfInBounds_toArray, List.set_cons_zero, List.set_cons_succ, List.getElem_toArray, List.getElem_cons_zero, List.getElem_cons_succ])
          refine wpAnyH_take (i := 9) (v := ?_) rfl (by kernel_rfl) (by kernel_rfl) (by kernel_rfl) (fun _ _ _ h => h) (Or.inl ⟨by rfl, ?_⟩) (by assumption) ?_
          rotate_left
          · intro wS hSw
            (skip)
            go_simp
            all_goals with_reducible rfl
          (try simp only [List.getElem_toArray, List.getElem_cons_zero, List.getElem_cons_succ, Act.put, List.setIfInBounds_toArray, List.set_cons_zero, List.set_cons_succ])
          refine wpAnyH_done (by kernel_rfl) ?_ _
          refine hK8 _ _ ?_
          clear hK8 K8 hHeld c6 c7 hl
          obtain ⟨ab', ao', hA, hl, c0, c1, c2, c3, c4, c5, c6, c7⟩ := nd_at H3.out.1 hlt
          injection hA with hA; injection hA with hA1 hA2; subst hA1; subst hA2
          rw [HTT.out.1] at c6
          rw [HTT.out.2] at c7
          have hab : ab ≠ W.heap.size := by
            obtain ⟨b9, o9, e9, hl9, _⟩ := HN.out.1.2 (by omega)
            injection e9 with e9; injection e9 with e9; omega
          have hne3 := H1.out.2.2.2.1
          have q1 := H3.out.2.1.2 t HTF.out.1
          have q2 := H3.out.2.1.2 f HTF.out.2
          obtain ⟨g0, g1⟩ := far_cells H3.out.2.2.1 hlt
          rw [show mixW nd n (iterN nd n K) k k = iterN nd n K k from if_neg (Nat.lt_irrefl _)] at g0 g1
          have z0 := far_frozen H3.out.2.2.1 (k * 2)
          have z1 := far_frozen H3.out.2.2.1 (k * 2 + 1)
          obtain ⟨a1, ha1⟩ : ∃ z, (iterN nd n K k).1 = z := ⟨_, rfl⟩
          obtain ⟨a2, ha2⟩ : ∃ z, (iterN nd n K k).2 = z := ⟨_, rfl⟩
          rw [ha1] at g0
          rw [ha2] at g1
          have HA : Hid (iterN nd n K k = (a1, a2)) := Lib.hid (by rw [← ha1, ← ha2])
          rw [ha1, ha2] at HBE
          clear ha1 ha2
          generalize firstN nd (iterN nd n K) t = fT at q1 HBE l2
          generalize firstN nd (iterN nd n K) f = fF at q2 HBE l3
          have hwT : IntKind.i64.wrap ((fT : Int) - (j : Int)) = (fT : Int) - (j : Int) := IntWalk.i64_in _ (by have := HTF.out; omega)
          have hwF : IntKind.i64.wrap ((fF : Int) - (j : Int)) = (fF : Int) - (j : Int) := IntWalk.i64_in _ (by have := HTF.out; omega)
          have hwT1 : IntKind.i64.wrap ((fT : Int) - (j : Int) - 1) = (fT : Int) - (j : Int) - 1 := IntWalk.i64_in _ (by have := HTF.out; omega)
          have hwF1 : IntKind.i64.wrap ((fF : Int) - (j : Int) - 1) = (fF : Int) - (j : Int) - 1 := IntWalk.i64_in _ (by have := HTF.out; omega)
          clear l1 l2 l3 hjz HJ
          have mkk : mixW nd n (iterN nd n K) k k = iterN nd n K k := if_neg (Nat.lt_irrefl _)
          have HMK := Lib.hid mkk
          clear mkk
          cases a1 with
          | true =>
            cases a2 with
            | true =>
              have hmore : c = true ↔ (c = true ∨ widerN nd n (iterN nd n K) k ≠ iterN nd n K k) := by simp [HBE.out, HA.out, HMK.out]
              have HMR := Lib.hid (more_next HMO.out hmore)
              have hmx := mix_next (nd := nd) (n := n) (lg := iterN nd n K) (k := k) (F := (mixW nd n (iterN nd n K) k)) (by simp [HBE.out, HA.out, HMK.out]) (fun i hi => by simp [hi])
              have HFR := Lib.hid (H3.out.2.2.1.ways hmx)
              clear hmore hmx
              go_wp2
              exact ⟨⟨k + 1, by omega, by go_num, c, rfl, HMR.out, H3.out.2.1, HFR.out, H3.out.2.2.2.1, H3.out.2.2.2.2⟩, by simp [intOf]; omega⟩
            | false =>
              by_cases hF : (255 : Int) < (fF : Int) - (j : Int) - 1
              · have HF := Lib.hid hF
                have hmore : true = true ↔ (c = true ∨ widerN nd n (iterN nd n K) k ≠ iterN nd n K k) := by simp [HBE.out, HA.out, HMK.out, HF.out]
                have HMR := Lib.hid (more_next HMO.out hmore)
                have hmx := mix_next (nd := nd) (n := n) (lg := iterN nd n K) (k := k) (F := (fun i => if i = k then ((mixW nd n (iterN nd n K) k i).1, true) else mixW nd n (iterN nd n K) k i)) (by simp [HBE.out, HA.out, HMK.out, HF.out]) (fun i hi => by simp [hi])
                have HFR := Lib.hid ((H3.out.2.2.1.setF k).ways hmx)
                clear hmore hmx
                go_wp2
                exact ⟨⟨k + 1, by omega, by go_num, true, rfl, HMR.out, (H3.out.2.1.set hne3), HFR.out, (H3.out.2.2.2.1.setCell (p := ⟨W.heap.size, k * 2 + 1, none⟩) (Nat.le_refl _) _), by simpa [World.setCell] using H3.out.2.2.2.2⟩, by simp [intOf]; omega⟩
              · have HF := Lib.hid hF
                have hmore : c = true ↔ (c = true ∨ widerN nd n (iterN nd n K) k ≠ iterN nd n K k) := by simp [HBE.out, HA.out, HMK.out, HF.out]
                have HMR := Lib.hid (more_next HMO.out hmore)
                have hmx := mix_next (nd := nd) (n := n) (lg := iterN nd n K) (k := k) (F := (mixW nd n (iterN nd n K) k)) (by simp [HBE.out, HA.out, HMK.out, HF.out]) (fun i hi => by simp [hi])
                have HFR := Lib.hid (H3.out.2.2.1.ways hmx)
                clear hmore hmx
                go_wp2
                exact ⟨⟨k + 1, by omega, by go_num, c, rfl, HMR.out, H3.out.2.1, HFR.out, H3.out.2.2.2.1, H3.out.2.2.2.2⟩, by simp [intOf]; omega⟩
          | false =>
            by_cases hT : (255 : Int) < (fT : Int) - (j : Int) - 1
            · have HT := Lib.hid hT
              cases a2 with
              | true =>
                have s7 : (w2.setCell ⟨W.heap.size, k * 2, none⟩ (.bool true)).cell? ⟨ab, ao + k * 8 + 7, none⟩ = some (.int .i64 (f : Int)) := by unfold World.cell? at c7 ⊢; rw [set_other hab]; exact c7
                have s2 : (w2.setCell ⟨W.heap.size, k * 2, none⟩ (.bool true)).cell? ⟨g, f, none⟩ = some (.int .i64 (fF : Int)) := by unfold World.cell? at q2 ⊢; rw [set_other hne3]; exact q2
                have sg : (w2.setCell ⟨W.heap.size, k * 2, none⟩ (.bool true)).cell? ⟨W.heap.size, k * 2 + 1, none⟩ = some (.bool true) := by have q := (far_cells (H3.out.2.2.1.setT k) hlt).2; simp only [if_true, HMK.out, HA.out] at q; exact q
                have sz : (w2.setCell ⟨W.heap.size, k * 2, none⟩ (.bool true)).frozen? ⟨W.heap.size, k * 2 + 1, none⟩ = false := far_frozen (H3.out.2.2.1.setT k) _
                have hmore : true = true ↔ (c = true ∨ widerN nd n (iterN nd n K) k ≠ iterN nd n K k) := by simp [HBE.out, HA.out, HMK.out, HT.out]
                have HMR := Lib.hid (more_next HMO.out hmore)
                have hmx := mix_next (nd := nd) (n := n) (lg := iterN nd n K) (k := k) (F := (fun i => if i = k then (true, (mixW nd n (iterN nd n K) k i).2) else mixW nd n (iterN nd n K) k i)) (by simp [HBE.out, HA.out, HMK.out, HT.out]) (fun i hi => by simp [hi])
                have HFR := Lib.hid ((H3.out.2.2.1.setT k).ways hmx)
                clear hmore hmx
                go_wp2
                exact ⟨⟨k + 1, by omega, by go_num, true, rfl, HMR.out, (H3.out.2.1.set hne3), HFR.out, (H3.out.2.2.2.1.setCell (p := ⟨W.heap.size, k * 2, none⟩) (Nat.le_refl _) _), by simpa [World.setCell] using H3.out.2.2.2.2⟩, by simp [intOf]; omega⟩
              | false =>
                by_cases hF : (255 : Int) < (fF : Int) - (j : Int) - 1
                · have HF := Lib.hid hF
                  have s7 : (w2.setCell ⟨W.heap.size, k * 2, none⟩ (.bool true)).cell? ⟨ab, ao + k * 8 + 7, none⟩ = some (.int .i64 (f : Int)) := by unfold World.cell? at c7 ⊢; rw [set_other hab]; exact c7
                  have s2 : (w2.setCell ⟨W.heap.size, k * 2, none⟩ (.bool true)).cell? ⟨g, f, none⟩ = some (.int .i64 (fF : Int)) := by unfold World.cell? at q2 ⊢; rw [set_other hne3]; exact q2
                  have sg : (w2.setCell ⟨W.heap.size, k * 2, none⟩ (.bool true)).cell? ⟨W.heap.size, k * 2 + 1, none⟩ = some (.bool false) := by have q := (far_cells (H3.out.2.2.1.setT k) hlt).2; simp only [if_true, HMK.out, HA.out] at q; exact q
                  have sz : (w2.setCell ⟨W.heap.size, k * 2, none⟩ (.bool true)).frozen? ⟨W.heap.size, k * 2 + 1, none⟩ = false := far_frozen (H3.out.2.2.1.setT k) _
                  have hmore : true = true ↔ (c = true ∨ widerN nd n (iterN nd n K) k ≠ iterN nd n K k) := by simp [HBE.out, HA.out, HMK.out, HT.out, HF.out]
                  have HMR := Lib.hid (more_next HMO.out hmore)
                  have hmx := mix_next (nd := nd) (n := n) (lg := iterN nd n K) (k := k) (F := (fun i => if i = k then (((fun i => if i = k then (true, (mixW nd n (iterN nd n K) k i).2) else mixW nd n (iterN nd n K) k i) i).1, true) else (fun i => if i = k then (true, (mixW nd n (iterN nd n K) k i).2) else mixW nd n (iterN nd n K) k i) i)) (by simp [HBE.out, HA.out, HMK.out, HT.out, HF.out]) (fun i hi => by simp [hi])
                  have HFR := Lib.hid (((H3.out.2.2.1.setT k).setF k).ways hmx)
                  clear hmore hmx
                  go_wp2
                  exact ⟨⟨k + 1, by omega, by go_num, true, rfl, HMR.out, ((H3.out.2.1.set hne3).set hne3), HFR.out, ((H3.out.2.2.2.1.setCell (p := ⟨W.heap.size, k * 2, none⟩) (Nat.le_refl _) _).setCell (p := ⟨W.heap.size, k * 2 + 1, none⟩) (Nat.le_refl _) _), by simpa [World.setCell] using H3.out.2.2.2.2⟩, by simp [intOf]; omega⟩
                · have HF := Lib.hid hF
                  have s7 : (w2.setCell ⟨W.heap.size, k * 2, none⟩ (.bool true)).cell? ⟨ab, ao + k * 8 + 7, none⟩ = some (.int .i64 (f : Int)) := by unfold World.cell? at c7 ⊢; rw [set_other hab]; exact c7
                  have s2 : (w2.setCell ⟨W.heap.size, k * 2, none⟩ (.bool true)).cell? ⟨g, f, none⟩ = some (.int .i64 (fF : Int)) := by unfold World.cell? at q2 ⊢; rw [set_other hne3]; exact q2
                  have sg : (w2.setCell ⟨W.heap.size, k * 2, none⟩ (.bool true)).cell? ⟨W.heap.size, k * 2 + 1, none⟩ = some (.bool false) := by have q := (far_cells (H3.out.2.2.1.setT k) hlt).2; simp only [if_true, HMK.out, HA.out] at q; exact q
                  have sz : (w2.setCell ⟨W.heap.size, k * 2, none⟩ (.bool true)).frozen? ⟨W.heap.size, k * 2 + 1, none⟩ = false := far_frozen (H3.out.2.2.1.setT k) _
                  have hmore : true = true ↔ (c = true ∨ widerN nd n (iterN nd n K) k ≠ iterN nd n K k) := by simp [HBE.out, HA.out, HMK.out, HT.out, HF.out]
                  have HMR := Lib.hid (more_next HMO.out hmore)
                  have hmx := mix_next (nd := nd) (n := n) (lg := iterN nd n K) (k := k) (F := (fun i => if i = k then (true, (mixW nd n (iterN nd n K) k i).2) else mixW nd n (iterN nd n K) k i)) (by simp [HBE.out, HA.out, HMK.out, HT.out, HF.out]) (fun i hi => by simp [hi])
                  have HFR := Lib.hid ((H3.out.2.2.1.setT k).ways hmx)
                  clear hmore hmx
                  go_wp2
                  exact ⟨⟨k + 1, by omega, by go_num, true, rfl, HMR.out, (H3.out.2.1.set hne3), HFR.out, (H3.out.2.2.2.1.setCell (p := ⟨W.heap.size, k * 2, none⟩) (Nat.le_refl _) _), by simpa [World.setCell] using H3.out.2.2.2.2⟩, by simp [intOf]; omega⟩
            · have HT := Lib.hid hT
              cases a2 with
              | true =>
                have hmore : c = true ↔ (c = true ∨ widerN nd n (iterN nd n K) k ≠ iterN nd n K k) := by simp [HBE.out, HA.out, HMK.out, HT.out]
                have HMR := Lib.hid (more_next HMO.out hmore)
                have hmx := mix_next (nd := nd) (n := n) (lg := iterN nd n K) (k := k) (F := (mixW nd n (iterN nd n K) k)) (by simp [HBE.out, HA.out, HMK.out, HT.out]) (fun i hi => by simp [hi])
                have HFR := Lib.hid (H3.out.2.2.1.ways hmx)
                clear hmore hmx
                go_wp2
                exact ⟨⟨k + 1, by omega, by go_num, c, rfl, HMR.out, H3.out.2.1, HFR.out, H3.out.2.2.2.1, H3.out.2.2.2.2⟩, by simp [intOf]; omega⟩
              | false =>
                by_cases hF : (255 : Int) < (fF : Int) - (j : Int) - 1
                · have HF := Lib.hid hF
                  have hmore : true = true ↔ (c = true ∨ widerN nd n (iterN nd n K) k ≠ iterN nd n K k) := by simp [HBE.out, HA.out, HMK.out, HT.out, HF.out]
                  have HMR := Lib.hid (more_next HMO.out hmore)
                  have hmx := mix_next (nd := nd) (n := n) (lg := iterN nd n K) (k := k) (F := (fun i => if i = k then ((mixW nd n (iterN nd n K) k i).1, true) else mixW nd n (iterN nd n K) k i)) (by simp [HBE.out, HA.out, HMK.out, HT.out, HF.out]) (fun i hi => by simp [hi])
                  have HFR := Lib.hid ((H3.out.2.2.1.setF k).ways hmx)
                  clear hmore hmx
                  go_wp2
                  exact ⟨⟨k + 1, by omega, by go_num, true, rfl, HMR.out, (H3.out.2.1.set hne3), HFR.out, (H3.out.2.2.2.1.setCell (p := ⟨W.heap.size, k * 2 + 1, none⟩) (Nat.le_refl _) _), by simpa [World.setCell] using H3.out.2.2.2.2⟩, by simp [intOf]; omega⟩
                · have HF := Lib.hid hF
                  have hmore : c = true ↔ (c = true ∨ widerN nd n (iterN nd n K) k ≠ iterN nd n K k) := by simp [HBE.out, HA.out, HMK.out, HT.out, HF.out]
                  have HMR := Lib.hid (more_next HMO.out hmore)
                  have hmx := mix_next (nd := nd) (n := n) (lg := iterN nd n K) (k := k) (F := (mixW nd n (iterN nd n K) k)) (by simp [HBE.out, HA.out, HMK.out, HT.out, HF.out]) (fun i hi => by simp [hi])
                  have HFR := Lib.hid (H3.out.2.2.1.ways hmx)
                  clear hmore hmx
                  go_wp2
                  exact ⟨⟨k + 1, by omega, by go_num, c, rfl, HMR.out, H3.out.2.1, HFR.out, H3.out.2.2.2.1, H3.out.2.2.2.2⟩, by simp [intOf]; omega⟩
      · obtain rfl : k = n := by omega
        have hfs : ∀ i, i < k → mixW nd k (iterN nd k K) k i = iterN nd k (K + 1) i := fun i hi => by
          rw [← HWD.out]; exact if_pos hi
        have HF1 := Lib.hid (HI.out.2.2.1.ways hfs)
        clear hfs
        cases c with
        | false =>
          have hs : ∀ i, i < k → iterN nd k (K + 1) i = iterN nd k K i := fun i hi => Decidable.byContradiction fun q => by
            have := HI.out.1.2 ⟨i, hi, by rw [HWD.out]; exact q⟩
            exact absurd this (by decide)
          have hl := long_is (nd := nd) (n := k) (k := K) (by have := HR.out.1; have := cnt_le (iterN nd k K) k; omega) hs
          have HL : Hid (FarAt wr W.heap.size k (longN nd k)) := Lib.hid (HF1.out.ways (fun i hi => by rw [hs i hi, hl]))
          clear hs hl
          go_wp2
          go_ret
          exact ⟨_, rfl, Nat.le_refl _, HL.out, HI.out.2.2.2.1⟩
        | true =>
          have hm := iter_more HN.out.2 K (by
            obtain ⟨i, hi, q⟩ := HI.out.1.1 rfl
            exact ⟨i, hi, by rw [← HWD.out]; exact q⟩)
          have hc1 := cnt_far HF1.out k (Nat.le_refl _)
          have hc2 := cnt_le (iterN nd k (K + 1)) k
          have HM := Lib.hid (And.intro hm (And.intro hc1 (And.intro hc2 (And.intro HCN.out HR.out.1))))
          clear hm hc1 hc2
          go_wp2
          exact ⟨⟨K + 1, by have := HM.out; omega, HF1.out, HI.out.2.2.2.1, HI.out.2.2.2.2⟩, by have := HM.out; omega⟩
end Go.Proofs.Ytfeeainhelegjaa
