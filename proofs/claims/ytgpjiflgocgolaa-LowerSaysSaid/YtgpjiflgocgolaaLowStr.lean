/-
  The program gives long ways to those that need one: a contract. Conditions: those that it names.
-/
import Derived.Test.YtgpjiflgocgolaaLowOvr
namespace Go.Proofs.Ytgpjiflgocgolaa
open Go Go.RowKit
set_option linter.unusedSimpArgs false
set_option linter.unusedVariables false

theorem eq_ways (a b c d : Bool) (w : World) : (Op.equalIn 10000 99 (.agg #[.bool a, .bool b]) (.agg #[.bool c, .bool d])).run Try.prog w = .ok ((a == c) && (b == d)) w := by
  rw [show (10000 : Nat) = 9999 + 1 from rfl, run_equalIn_agg w 9999 99 _ _ (by kernel_rfl) (by kernel_rfl)]
  simp only [Program.fieldsOf, Try.underlying99]
  cases a <;> cases b <;> cases c <;> cases d <;> go_simp
theorem neq_ways (a b c d : Bool) (w : World) : (binOp BinOp.neq 99 (.agg #[.bool a, .bool b]) (.agg #[.bool c, .bool d])).run Try.prog w = .ok (.bool (!((a == c) && (b == d)))) w := by
  rw [run_neq_struct, eq_ways]; rfl
/-- Ways so far. -/
def mixN (nd : Nat → Nd) (n : Nat) (lg : Ways) (k : Nat) : Ways := fun j => if j < k then stepN nd n lg j else lg j
theorem LayAt.ways {B : Nat} {W : World} {b : Nat} {A : Option Addr} {n cap : Nat} {nd : Nat → Nd} {lb fb : Nat} {lg lg' : Ways} {ft : Nat → Nat} (h : LayAt B W b A n cap nd lb fb lg ft) (he : ∀ i, i < n → lg i = lg' i) : LayAt B W b A n cap nd lb fb lg' ft := by
  obtain ⟨G, hG, g2⟩ := h.long
  exact ⟨h.box, h.nds, h.away, ⟨G, hG, fun i hi => by rw [← he i hi]; exact g2 i hi⟩, h.first, h.up⟩
/-- A node's ways anew. -/
theorem LayAt.way {B : Nat} {W : World} {b : Nat} {A : Option Addr} {n cap : Nat} {nd : Nat → Nd} {lb fb : Nat} {lg : Ways} {ft : Nat → Nat} (h : LayAt B W b A n cap nd lb fb lg ft) (k : Nat) (x : Bool × Bool) :
    LayAt B ((W.setCell ⟨lb, k * 2, none⟩ (.bool x.1)).setCell ⟨lb, k * 2 + 1, none⟩ (.bool x.2)) b A n cap nd lb fb (fun j => if j = k then x else lg j) ft := by
  obtain ⟨G, hG, g2⟩ := h.long
  obtain ⟨F, hF, f2⟩ := h.first
  have ha : ∀ ab ao, A = some ⟨ab, ao, none⟩ → 0 < n → ab ≠ lb := fun ab ao e hn e2 => by have := h.away ab ao e hn; have := h.up.2.1; omega
  refine ⟨(set_other h.up.2.2.2.2.1.symm).trans ((set_other h.up.2.2.2.2.1.symm).trans h.box), nd_set (nd_set h.nds ha) ha, h.away, ⟨_, (World.rowIs.set hG (k * 2) _).set (k * 2 + 1) _, fun i hi => ?_⟩, ⟨F, row_set (row_set hF h.up.2.2.2.1.symm) h.up.2.2.2.1.symm, f2⟩, h.up⟩
  by_cases e : i = k
  · subst e
    constructor
    · rw [if_neg (by omega), if_pos rfl]; simp
    · rw [if_pos rfl]; simp
  · constructor
    · rw [if_neg (by omega), if_neg (by omega), (g2 i hi).1]; simp [e]
    · rw [if_neg (by omega), if_neg (by omega), (g2 i hi).2]; simp [e]
set_option maxHeartbeats 8000000 in
set_option maxRecDepth 100000 in
theorem p_stretch {B : Nat} {W : World} {b : Nat} {A : Option Addr} {n cap : Nat} {nd : Nat → Nd} {lb fb : Nat} {lg : Ways} (h : LayAt B W b A n cap nd lb fb lg (firstN nd lg)) (hB : B ≤ W.heap.size) (hv : ValN nd n) (hleaf : ∀ i, i < n → (nd i).leaf = true → lg i = (false, false)) :
    Calls Try.prog 28 #[.pointer (some ⟨b, 0, none⟩)] W fun e w' => ∃ c : Bool, e = .returned (.bool c) ∧ (c = true ↔ ∃ i, i < n ∧ stepN nd n lg i ≠ lg i) ∧ LayAt B w' b A n cap nd lb fb (stepN nd n lg) (firstN nd lg) ∧ Below B W w' := by
  obtain ⟨k0, k1, k2⟩ := lay_box h
  have hn := hv.le
  have HL := Lib.hid h
  have HV := Lib.hid (And.intro hv hleaf)
  have HQ : Hid (∀ a b c d w, (binOp BinOp.neq 99 (.agg #[.bool a, .bool b]) (.agg #[.bool c, .bool d])).run Try.prog w = .ok (.bool (!((a == c) && (b == d)))) w) := Lib.hid (fun a b c d w => neq_ways a b c d w)
  clear h hv hleaf
  go_enter Try.func28, Try.ntmps28
  go_wp2
  go_loopw [3, 14] (fun s i wr => ∃ k : Nat, k ≤ n ∧ i = .int .i64 (k : Int) ∧ ∃ c : Bool, s = .bool c ∧ (c = true ↔ ∃ j, j < k ∧ stepN nd n lg j ≠ lg j) ∧ LayAt B wr b A n cap nd lb fb (mixN nd n lg k) (firstN nd lg) ∧ Below B W wr) (fun _ i _ => n - (intOf i).toNat)
  case atStart => exact ⟨0, by omega, rfl, false, rfl, ⟨fun e => (by cases e), fun ⟨j, hj, _⟩ => (by omega)⟩, HL.out.ways (fun i hi => by unfold mixN; rw [if_neg (by omega)]), Below.refl _ _⟩
  case round =>
    obtain ⟨k, hk, rfl, c, rfl, hc, hl, hb⟩ := hrel
    have HR := Lib.hid (And.intro hc (And.intro hl hb))
    clear hc hl hb k0 k1 k2
    by_cases hlt : k < n
    · have hlt' : (k : Int) < (n : Int) := by omega
      obtain ⟨ab, ao, rfl, hl, c0, c1, c2, c3, c4, c5, c6, c7⟩ := nd_at HR.out.2.1.nds hlt
      by_cases hlf : (nd k).leaf = true
      · have HST : Hid (stepN nd n lg k = lg k) := Lib.hid (by rw [HV.out.2 k hlt hlf]; exact if_neg (fun g => by rw [hlf] at g; exact absurd g.2 (by decide)))
        have hb1 := lboxL wr (ndO (nd k))
        have HB1 := Lib.hid (And.intro hb1 (HR.out.2.1.below hb1))
        unfold ndO at HB1
        rw [hlf] at c0 HB1
        clear hb1
        have HLF := Lib.hid hlf
        clear hlf
        go_wp2
        refine ⟨⟨k + 1, by omega, by go_num, c, rfl, HR.out.1.trans ⟨fun ⟨j, h1, h2⟩ => ⟨j, by omega, h2⟩, fun ⟨j, h1, h2⟩ => ?_⟩, HB1.out.2.ways (fun i hi => ?_), HR.out.2.2.trans (HB1.out.1.mono (Nat.le_trans hB HR.out.2.2.size))⟩, by simp [intOf]; omega⟩
        · rcases Nat.lt_or_ge j k with g | g
          · exact ⟨j, g, h2⟩
          · obtain rfl : j = k := by omega
            exact absurd HST.out h2
        · unfold mixN
          by_cases g : i < k
          · rw [if_pos g, if_pos (by omega)]
          · rw [if_neg g]
            by_cases g2 : i < k + 1
            · rw [if_pos g2, show i = k by omega, HST.out]
            · rw [if_neg g2]
      · have hlf' : (nd k).leaf = false := by cases hh : (nd k).leaf; rfl; exact absurd hh hlf
        have hways := HV.out.1.ways k hlt hlf'
        have HO := Lib.hid (fun V hV => p_over (B := B) (W := V) (b := b) (A := some ⟨ab, ao, none⟩) (n := n) (cap := cap) (nd := nd) (lb := lb) (fb := fb) (lg := lg) (lgc := mixN nd n lg k) hV hn hlt (by unfold mixN; rw [if_neg (Nat.lt_irrefl _)]) hways)
        have HST : Hid (stepN nd n lg k = (decide (255 < overT nd lg k), decide (255 < overF nd lg k))) := Lib.hid (if_pos ⟨hlt, hlf'⟩)
        have hb1 := lboxL wr (ndO (nd k))
        have HB1 := Lib.hid (And.intro hb1 (HR.out.2.1.below hb1))
        unfold ndO at HB1
        rw [hlf'] at c0 HB1
        clear hb1 hlf hlf' hways
        generalize overT nd lg k = oT at HO HST
        generalize overF nd lg k = oF at HO HST
        go_upto_region 8 with (go_at_call 53; (with_reducible refine (HO.out _ HB1.out.2).mono ?_); rintro e w1 ⟨rfl, hb1⟩; have HB2 := Lib.hid (And.intro (HR.out.2.2.trans ((HB1.out.1.trans (hb1.mono HB1.out.1.size)).mono (Nat.le_trans hB HR.out.2.2.size))) (HB1.out.2.below hb1)); clear hb1)
        generalize decide (255 < oT) = dT at HST ⊢
        generalize decide (255 < oF) = dF at HST ⊢
        have HB3 : Hid (Below B W (w1.alloc (.cells #[.bool dT, .bool dF] 99)) ∧ LayAt B (w1.alloc (.cells #[.bool dT, .bool dF] 99)) b (some ⟨ab, ao, none⟩) n cap nd lb fb (mixN nd n lg k) (firstN nd lg) ∧ (w1.alloc (.cells #[.bool dT, .bool dF] 99)).heap[w1.heap.size]? = some (.cells #[.bool dT, .bool dF] 99) ∧ w1.heap.size ≠ lb) := Lib.hid ⟨HB2.out.1.trans ((lboxL w1 _).mono (Nat.le_trans hB HB2.out.1.size)), HB2.out.2.below (lboxL w1 _), World.alloc_heap_new w1 _, by have := (lay_lt HB2.out.2).2.1; omega⟩
        generalize w1.alloc (.cells #[.bool dT, .bool dF] 99) = Y at HB3 ⊢
        generalize w1.heap.size = pb at HB3 ⊢
        clear HB1 HB2 HO
        obtain ⟨p0, p1, p2⟩ := lay_box HB3.out.2.1
        obtain ⟨g0, g1⟩ := lay_long HB3.out.2.1 hlt
        have hmk : mixN nd n lg k k = lg k := if_neg (Nat.lt_irrefl _)
        rw [hmk] at g0 g1
        clear hmk
        have e0 : Y.cell? ⟨pb, 0, none⟩ = some (.bool dT) := by rw [Lib.cell_of_heap HB3.out.2.2.1]; rfl
        have e1 : Y.cell? ⟨pb, 1, none⟩ = some (.bool dF) := by rw [Lib.cell_of_heap HB3.out.2.2.1]; rfl
        have hq := HQ.out
        obtain ⟨a1, ha1⟩ : ∃ z, (lg k).1 = z := ⟨_, rfl⟩
        obtain ⟨a2, ha2⟩ : ∃ z, (lg k).2 = z := ⟨_, rfl⟩
        rw [ha1] at g0
        rw [ha2] at g1
        have HA : Hid (lg k = (a1, a2)) := Lib.hid (by rw [← ha1, ← ha2])
        clear ha1 ha2
        have HCC : Hid (∀ c' : Bool, c' = (c || !((dT == a1) && (dF == a2))) → (c' = true ↔ ∃ j, j < k + 1 ∧ stepN nd n lg j ≠ lg j)) := Lib.hid (fun c' hc' => by
          have h1 := HR.out.1
          have h2 : (!((dT == a1) && (dF == a2))) = true ↔ stepN nd n lg k ≠ lg k := by
            rw [HST.out, HA.out]
            cases dT <;> cases dF <;> cases a1 <;> cases a2 <;> simp
          rw [hc', Bool.or_eq_true, h1, h2]
          constructor
          · rintro (⟨j, g1, g2⟩ | g)
            · exact ⟨j, by omega, g2⟩
            · exact ⟨k, by omega, g⟩
          · rintro ⟨j, g1, g2⟩
            rcases Nat.lt_or_ge j k with q | q
            · exact .inl ⟨j, q, g2⟩
            · obtain rfl : j = k := by omega
              exact .inr g2)
        clear HR
        cases c with
        | true =>
          go_quiet (fail)
          have HCX := Lib.hid (HCC.out true rfl)
          have HB4 : Hid (Below B W (Y.drewN nq).drew ∧ LayAt B (Y.drewN nq).drew b (some ⟨ab, ao, none⟩) n cap nd lb fb (mixN nd n lg k) (firstN nd lg) ∧ (Y.drewN nq).drew.heap[pb]? = some (.cells #[.bool dT, .bool dF] 99) ∧ pb ≠ lb) := Lib.hid ⟨(below_drawn HB3.out.1 nq).drew, (HB3.out.2.1.below (below_drawn (Below.refl _ _) nq)).below (below_drawn (Below.refl _ _) 1), HB3.out.2.2.1, HB3.out.2.2.2⟩
          clear HB3 p0 p1 p2 g0 g1 e0 e1 hq c0 c1 c2 c3 c4 c5 c6 c7
          go_upto_region 9 with fail
          refine wp_region_held_drew (S := fun W' => (∃ q, LayAt B W' b (some ⟨ab, ao, none⟩) n cap nd lb fb q (firstN nd lg)) ∧ W'.heap[pb]? = some (.cells #[.bool dT, .bool dF] 99)) (by kernel_rfl) ⟨⟨_, HB4.out.2.1⟩, HB4.out.2.2.1⟩ (fun hHeld => ?_)
          generalize (Y.drewN nq).drew = Y2 at HB4 hHeld ⊢
          refine wpAnyH_take (i := 0) (v := ?_) rfl (by kernel_rfl) (by kernel_rfl) (by kernel_rfl) (fun _ _ _ h => h) (Or.inl ⟨by rfl, ?_⟩) (by assumption) ?_
          rotate_left
          · intro wS hSw
            (obtain ⟨⟨q, hq9⟩, hpb⟩ := hSw; obtain ⟨m0, m1, m2⟩ := lay_box hq9; have e0 : wS.cell? ⟨pb, 0, none⟩ = some (.bool dT) := by { rw [Lib.cell_of_heap hpb]; rfl }; have e1 : wS.cell? ⟨pb, 1, none⟩ = some (.bool dF) := by { rw [Lib.cell_of_heap hpb]; rfl })
            go_simp
            all_goals with_reducible rfl
          (try simp only [List.getElem_toArray, List.getElem_cons_zero, List.getElem_cons_succ, Act.put, List.setIfInBounds_toArray, List.set_cons_zero, List.set_cons_succ])
          refine wpAnyH_take (i := 1) (v := ?_) rfl (by kernel_rfl) (by kernel_rfl) (by kernel_rfl) (fun _ _ _ h => h) (Or.inl ⟨by rfl, ?_⟩) (by assumption) ?_
          rotate_left
          · intro wS hSw
            (obtain ⟨⟨q, hq9⟩, hpb⟩ := hSw; obtain ⟨m0, m1, m2⟩ := lay_box hq9; have e0 : wS.cell? ⟨pb, 0, none⟩ = some (.bool dT) := by { rw [Lib.cell_of_heap hpb]; rfl }; have e1 : wS.cell? ⟨pb, 1, none⟩ = some (.bool dF) := by { rw [Lib.cell_of_heap hpb]; rfl })
            go_simp
            all_goals with_reducible rfl
          (try simp only [List.getElem_toArray, List.getElem_cons_zero, List.getElem_cons_succ, Act.put, List.setIfInBounds_toArray, List.set_cons_zero, List.set_cons_succ])
          refine wpAnyH_take (i := 2) (v := ?_) rfl (by kernel_rfl) (by kernel_rfl) (by kernel_rfl) (fun _ _ _ h => h) (Or.inl ⟨by rfl, ?_⟩) (by assumption) ?_
          rotate_left
          · intro wS hSw
            (obtain ⟨⟨q, hq9⟩, hpb⟩ := hSw; obtain ⟨m0, m1, m2⟩ := lay_box hq9; have e0 : wS.cell? ⟨pb, 0, none⟩ = some (.bool dT) := by { rw [Lib.cell_of_heap hpb]; rfl }; have e1 : wS.cell? ⟨pb, 1, none⟩ = some (.bool dF) := by { rw [Lib.cell_of_heap hpb]; rfl })
            go_simp
            all_goals with_reducible rfl
          (try simp only [List.getElem_toArray, List.getElem_cons_zero, List.getElem_cons_succ, Act.put, List.setIfInBounds_toArray, List.set_cons_zero, List.set_cons_succ])
          refine wpAnyH_take (i := 3) (v := ?_) rfl (by kernel_rfl) (by kernel_rfl) (by kernel_rfl) (fun _ _ _ h => h) (Or.inl ⟨by rfl, ?_⟩) (by assumption) ?_
          rotate_left
          · intro wS hSw
            (obtain ⟨⟨q, hq9⟩, hpb⟩ := hSw; obtain ⟨m0, m1, m2⟩ := lay_box hq9; have e0 : wS.cell? ⟨pb, 0, none⟩ = some (.bool dT) := by { rw [Lib.cell_of_heap hpb]; rfl }; have e1 : wS.cell? ⟨pb, 1, none⟩ = some (.bool dF) := by { rw [Lib.cell_of_heap hpb]; rfl })
            go_simp
            all_goals with_reducible rfl
          (try simp only [List.getElem_toArray, List.getElem_cons_zero, List.getElem_cons_succ, Act.put, List.setIfInBounds_toArray, List.set_cons_zero, List.set_cons_succ])
          refine wpAnyH_take (i := 4) (v := ?_) rfl (by kernel_rfl) (by kernel_rfl) (by kernel_rfl) (fun _ _ _ h => h) (Or.inl ⟨by rfl, ?_⟩) (by assumption) ?_
          rotate_left
          · intro wS hSw
            (obtain ⟨⟨q, hq9⟩, hpb⟩ := hSw; obtain ⟨m0, m1, m2⟩ := lay_box hq9; have e0 : wS.cell? ⟨pb, 0, none⟩ = some (.bool dT) := by { rw [Lib.cell_of_heap hpb]; rfl }; have e1 : wS.cell? ⟨pb, 1, none⟩ = some (.bool dF) := by { rw [Lib.cell_of_heap hpb]; rfl })
            go_simp
            all_goals with_reducible rfl
          (try simp only [List.getElem_toArray, List.getElem_cons_zero, List.getElem_cons_succ, Act.put, List.setIfInBounds_toArray, List.set_cons_zero, List.set_cons_succ])
          refine wpAnyH_take (i := 5) (v := ?_) rfl (by kernel_rfl) (by kernel_rfl) (by kernel_rfl) (fun _ _ _ h => h) (Or.inl ⟨by rfl, ?_⟩) (by assumption) ?_
          rotate_left
          · intro wS hSw
            (obtain ⟨⟨q, hq9⟩, hpb⟩ := hSw; obtain ⟨m0, m1, m2⟩ := lay_box hq9; have e0 : wS.cell? ⟨pb, 0, none⟩ = some (.bool dT) := by { rw [Lib.cell_of_heap hpb]; rfl }; have e1 : wS.cell? ⟨pb, 1, none⟩ = some (.bool dF) := by { rw [Lib.cell_of_heap hpb]; rfl })
            go_simp
            all_goals with_reducible rfl
          (try simp only [List.getElem_toArray, List.getElem_cons_zero, List.getElem_cons_succ, Act.put, List.setIfInBounds_toArray, List.set_cons_zero, List.set_cons_succ])
          refine wpAnyH_take (i := 6) (v := ?_) rfl (by kernel_rfl) (by kernel_rfl) (by kernel_rfl) (fun _ _ _ h => h) (Or.inl ⟨by rfl, ?_⟩) (by assumption) ?_
          rotate_left
          · intro wS hSw
            (obtain ⟨⟨q, hq9⟩, hpb⟩ := hSw; obtain ⟨m0, m1, m2⟩ := lay_box hq9; have e0 : wS.cell? ⟨pb, 0, none⟩ = some (.bool dT) := by { rw [Lib.cell_of_heap hpb]; rfl }; have e1 : wS.cell? ⟨pb, 1, none⟩ = some (.bool dF) := by { rw [Lib.cell_of_heap hpb]; rfl })
            go_simp
            all_goals with_reducible rfl
          (try simp only [List.getElem_toArray, List.getElem_cons_zero, List.getElem_cons_succ, Act.put, List.setIfInBounds_toArray, List.set_cons_zero, List.set_cons_succ])
          obtain ⟨g0, g1⟩ := lay_long HB4.out.2.1 hlt
          obtain ⟨G, hG, g2⟩ := HB4.out.2.1.long
          have z0 := World.rowIs.frozen hG (k * 2)
          have z1 := World.rowIs.frozen hG (k * 2 + 1)
          clear hG g2
          refine held_one (i := 7) (by kernel_rfl) rfl (fun K hK => ?_)
          go_simp
          have HP : Hid (LayAt B ((Y2.setCell ⟨lb, k * 2, none⟩ (.bool dT)).setCell ⟨lb, k * 2 + 1, none⟩ (.bool dF)) b (some ⟨ab, ao, none⟩) n cap nd lb fb (fun j => if j = k then (dT, dF) else mixN nd n lg k j) (firstN nd lg) ∧ Below B W ((Y2.setCell ⟨lb, k * 2, none⟩ (.bool dT)).setCell ⟨lb, k * 2 + 1, none⟩ (.bool dF)) ∧ ((Y2.setCell ⟨lb, k * 2, none⟩ (.bool dT)).setCell ⟨lb, k * 2 + 1, none⟩ (.bool dF)).heap[pb]? = some (.cells #[.bool dT, .bool dF] 99)) := Lib.hid ⟨HB4.out.2.1.way k (dT, dF), (HB4.out.1.setCell (p := ⟨lb, k * 2, none⟩) HB4.out.2.1.up.2.1 _).setCell (p := ⟨lb, k * 2 + 1, none⟩) HB4.out.2.1.up.2.1 _, (set_other HB4.out.2.2.2).trans ((set_other HB4.out.2.2.2).trans HB4.out.2.2.1)⟩
          refine hK.out _ _ ⟨⟨_, HP.out.1⟩, HP.out.2.2⟩ (fun _ => ?_)
          clear hK K hHeld HB4 g0 g1 z0 z1
          refine wpAnyH_done (by kernel_rfl) ?_ _
          go_wp2
          exact ⟨⟨k + 1, by omega, by go_num, true, rfl, HCX.out, HP.out.1.ways (fun i hi => by
            unfold mixN
            by_cases g : i = k
            · subst g; rw [if_pos rfl, if_pos (by omega), HST.out]
            · rw [if_neg g]
              by_cases g2 : i < k
              · rw [if_pos g2, if_pos (by omega)]
              · rw [if_neg g2, if_neg (by omega)]), HP.out.2.1⟩, by simp [intOf]; omega⟩
        | false =>
          go_quiet (fail)
          obtain ⟨c', hc'⟩ : ∃ c' : Bool, (!dT == a1 || !dF == a2) = c' := ⟨_, rfl⟩
          rw [hc']
          have HCX := Lib.hid (HCC.out c' (by rw [← hc']; cases dT <;> cases dF <;> cases a1 <;> cases a2 <;> rfl))
          clear hc'
          have HB4 : Hid (Below B W (Y.drewN nq).drew ∧ LayAt B (Y.drewN nq).drew b (some ⟨ab, ao, none⟩) n cap nd lb fb (mixN nd n lg k) (firstN nd lg) ∧ (Y.drewN nq).drew.heap[pb]? = some (.cells #[.bool dT, .bool dF] 99) ∧ pb ≠ lb) := Lib.hid ⟨(below_drawn HB3.out.1 nq).drew, (HB3.out.2.1.below (below_drawn (Below.refl _ _) nq)).below (below_drawn (Below.refl _ _) 1), HB3.out.2.2.1, HB3.out.2.2.2⟩
          clear HB3 p0 p1 p2 g0 g1 e0 e1 hq c0 c1 c2 c3 c4 c5 c6 c7
          go_upto_region 9 with fail
          refine wp_region_held_drew (S := fun W' => (∃ q, LayAt B W' b (some ⟨ab, ao, none⟩) n cap nd lb fb q (firstN nd lg)) ∧ W'.heap[pb]? = some (.cells #[.bool dT, .bool dF] 99)) (by kernel_rfl) ⟨⟨_, HB4.out.2.1⟩, HB4.out.2.2.1⟩ (fun hHeld => ?_)
          generalize (Y.drewN nq).drew = Y2 at HB4 hHeld ⊢
          refine wpAnyH_take (i := 0) (v := ?_) rfl (by kernel_rfl) (by kernel_rfl) (by kernel_rfl) (fun _ _ _ h => h) (Or.inl ⟨by rfl, ?_⟩) (by assumption) ?_
          rotate_left
          · intro wS hSw
            (obtain ⟨⟨q, hq9⟩, hpb⟩ := hSw; obtain ⟨m0, m1, m2⟩ := lay_box hq9; have e0 : wS.cell? ⟨pb, 0, none⟩ = some (.bool dT) := by { rw [Lib.cell_of_heap hpb]; rfl }; have e1 : wS.cell? ⟨pb, 1, none⟩ = some (.bool dF) := by { rw [Lib.cell_of_heap hpb]; rfl })
            go_simp
            all_goals with_reducible rfl
          (try simp only [List.getElem_toArray, List.getElem_cons_zero, List.getElem_cons_succ, Act.put, List.setIfInBounds_toArray, List.set_cons_zero, List.set_cons_succ])
          refine wpAnyH_take (i := 1) (v := ?_) rfl (by kernel_rfl) (by kernel_rfl) (by kernel_rfl) (fun _ _ _ h => h) (Or.inl ⟨by rfl, ?_⟩) (by assumption) ?_
          rotate_left
          · intro wS hSw
            (obtain ⟨⟨q, hq9⟩, hpb⟩ := hSw; obtain ⟨m0, m1, m2⟩ := lay_box hq9; have e0 : wS.cell? ⟨pb, 0, none⟩ = some (.bool dT) := by { rw [Lib.cell_of_heap hpb]; rfl }; have e1 : wS.cell? ⟨pb, 1, none⟩ = some (.bool dF) := by { rw [Lib.cell_of_heap hpb]; rfl })
            go_simp
            all_goals with_reducible rfl
          (try simp only [List.getElem_toArray, List.getElem_cons_zero, List.getElem_cons_succ, Act.put, List.setIfInBounds_toArray, List.set_cons_zero, List.set_cons_succ])
          refine wpAnyH_take (i := 2) (v := ?_) rfl (by kernel_rfl) (by kernel_rfl) (by kernel_rfl) (fun _ _ _ h => h) (Or.inl ⟨by rfl, ?_⟩) (by assumption) ?_
          rotate_left
          · intro wS hSw
            (obtain ⟨⟨q, hq9⟩, hpb⟩ := hSw; obtain ⟨m0, m1, m2⟩ := lay_box hq9; have e0 : wS.cell? ⟨pb, 0, none⟩ = some (.bool dT) := by { rw [Lib.cell_of_heap hpb]; rfl }; have e1 : wS.cell? ⟨pb, 1, none⟩ = some (.bool dF) := by { rw [Lib.cell_of_heap hpb]; rfl })
            go_simp
            all_goals with_reducible rfl
          (try simp only [List.getElem_toArray, List.getElem_cons_zero, List.getElem_cons_succ, Act.put, List.setIfInBounds_toArray, List.set_cons_zero, List.set_cons_succ])
          refine wpAnyH_take (i := 3) (v := ?_) rfl (by kernel_rfl) (by kernel_rfl) (by kernel_rfl) (fun _ _ _ h => h) (Or.inl ⟨by rfl, ?_⟩) (by assumption) ?_
          rotate_left
          · intro wS hSw
            (obtain ⟨⟨q, hq9⟩, hpb⟩ := hSw; obtain ⟨m0, m1, m2⟩ := lay_box hq9; have e0 : wS.cell? ⟨pb, 0, none⟩ = some (.bool dT) := by { rw [Lib.cell_of_heap hpb]; rfl }; have e1 : wS.cell? ⟨pb, 1, none⟩ = some (.bool dF) := by { rw [Lib.cell_of_heap hpb]; rfl })
            go_simp
            all_goals with_reducible rfl
          (try simp only [List.getElem_toArray, List.getElem_cons_zero, List.getElem_cons_succ, Act.put, List.setIfInBounds_toArray, List.set_cons_zero, List.set_cons_succ])
          refine wpAnyH_take (i := 4) (v := ?_) rfl (by kernel_rfl) (by kernel_rfl) (by kernel_rfl) (fun _ _ _ h => h) (Or.inl ⟨by rfl, ?_⟩) (by assumption) ?_
          rotate_left
          · intro wS hSw
            (obtain ⟨⟨q, hq9⟩, hpb⟩ := hSw; obtain ⟨m0, m1, m2⟩ := lay_box hq9; have e0 : wS.cell? ⟨pb, 0, none⟩ = some (.bool dT) := by { rw [Lib.cell_of_heap hpb]; rfl }; have e1 : wS.cell? ⟨pb, 1, none⟩ = some (.bool dF) := by { rw [Lib.cell_of_heap hpb]; rfl })
            go_simp
            all_goals with_reducible rfl
          (try simp only [List.getElem_toArray, List.getElem_cons_zero, List.getElem_cons_succ, Act.put, List.setIfInBounds_toArray, List.set_cons_zero, List.set_cons_succ])
          refine wpAnyH_take (i := 5) (v := ?_) rfl (by kernel_rfl) (by kernel_rfl) (by kernel_rfl) (fun _ _ _ h => h) (Or.inl ⟨by rfl, ?_⟩) (by assumption) ?_
          rotate_left
          · intro wS hSw
            (obtain ⟨⟨q, hq9⟩, hpb⟩ := hSw; obtain ⟨m0, m1, m2⟩ := lay_box hq9; have e0 : wS.cell? ⟨pb, 0, none⟩ = some (.bool dT) := by { rw [Lib.cell_of_heap hpb]; rfl }; have e1 : wS.cell? ⟨pb, 1, none⟩ = some (.bool dF) := by { rw [Lib.cell_of_heap hpb]; rfl })
            go_simp
            all_goals with_reducible rfl
          (try simp only [List.getElem_toArray, List.getElem_cons_zero, List.getElem_cons_succ, Act.put, List.setIfInBounds_toArray, List.set_cons_zero, List.set_cons_succ])
          refine wpAnyH_take (i := 6) (v := ?_) rfl (by kernel_rfl) (by kernel_rfl) (by kernel_rfl) (fun _ _ _ h => h) (Or.inl ⟨by rfl, ?_⟩) (by assumption) ?_
          rotate_left
          · intro wS hSw
            (obtain ⟨⟨q, hq9⟩, hpb⟩ := hSw; obtain ⟨m0, m1, m2⟩ := lay_box hq9; have e0 : wS.cell? ⟨pb, 0, none⟩ = some (.bool dT) := by { rw [Lib.cell_of_heap hpb]; rfl }; have e1 : wS.cell? ⟨pb, 1, none⟩ = some (.bool dF) := by { rw [Lib.cell_of_heap hpb]; rfl })
            go_simp
            all_goals with_reducible rfl
          (try simp only [List.getElem_toArray, List.getElem_cons_zero, List.getElem_cons_succ, Act.put, List.setIfInBounds_toArray, List.set_cons_zero, List.set_cons_succ])
          obtain ⟨g0, g1⟩ := lay_long HB4.out.2.1 hlt
          obtain ⟨G, hG, g2⟩ := HB4.out.2.1.long
          have z0 := World.rowIs.frozen hG (k * 2)
          have z1 := World.rowIs.frozen hG (k * 2 + 1)
          clear hG g2
          refine held_one (i := 7) (by kernel_rfl) rfl (fun K hK => ?_)
          go_simp
          have HP : Hid (LayAt B ((Y2.setCell ⟨lb, k * 2, none⟩ (.bool dT)).setCell ⟨lb, k * 2 + 1, none⟩ (.bool dF)) b (some ⟨ab, ao, none⟩) n cap nd lb fb (fun j => if j = k then (dT, dF) else mixN nd n lg k j) (firstN nd lg) ∧ Below B W ((Y2.setCell ⟨lb, k * 2, none⟩ (.bool dT)).setCell ⟨lb, k * 2 + 1, none⟩ (.bool dF)) ∧ ((Y2.setCell ⟨lb, k * 2, none⟩ (.bool dT)).setCell ⟨lb, k * 2 + 1, none⟩ (.bool dF)).heap[pb]? = some (.cells #[.bool dT, .bool dF] 99)) := Lib.hid ⟨HB4.out.2.1.way k (dT, dF), (HB4.out.1.setCell (p := ⟨lb, k * 2, none⟩) HB4.out.2.1.up.2.1 _).setCell (p := ⟨lb, k * 2 + 1, none⟩) HB4.out.2.1.up.2.1 _, (set_other HB4.out.2.2.2).trans ((set_other HB4.out.2.2.2).trans HB4.out.2.2.1)⟩
          refine hK.out _ _ ⟨⟨_, HP.out.1⟩, HP.out.2.2⟩ (fun _ => ?_)
          clear hK K hHeld HB4 g0 g1 z0 z1
          refine wpAnyH_done (by kernel_rfl) ?_ _
          go_wp2
          exact ⟨⟨k + 1, by omega, by go_num, c', rfl, HCX.out, HP.out.1.ways (fun i hi => by
            unfold mixN
            by_cases g : i = k
            · subst g; rw [if_pos rfl, if_pos (by omega), HST.out]
            · rw [if_neg g]
              by_cases g2 : i < k
              · rw [if_pos g2, if_pos (by omega)]
              · rw [if_neg g2, if_neg (by omega)]), HP.out.2.1⟩, by simp [intOf]; omega⟩
    · go_wp2
      go_ret
      exact ⟨c, rfl, by rw [HR.out.1]; exact ⟨fun ⟨j, g1, g2⟩ => ⟨j, by omega, g2⟩, fun ⟨j, g1, g2⟩ => ⟨j, by omega, g2⟩⟩, HR.out.2.1.ways (fun i hi => if_pos (by omega)), HR.out.2.2⟩
end Go.Proofs.Ytgpjiflgocgolaa
