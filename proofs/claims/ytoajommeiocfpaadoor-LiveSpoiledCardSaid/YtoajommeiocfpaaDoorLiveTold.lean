/-
  live.Most and live.Spans and the live question of the statements: contracts. Conditions: those that each names.
-/
import Derived.Test.YtoajommeiocfpaaDoorLiveOut
import Derived.Test.YtoajommeiocfpaaDoorLiveSort
import Derived.Test.YtoajommeiocfpaaDoorShelf
import Derived.Test.YtoajommeiocfpaaDoorMirHead
import Derived.Lib.LaidTab
import Derived.LaidMore
import Derived.OpenShut
import Derived.Stop.Joined
import Derived.MakeChecks
import Derived.Stop.LaidErr
import Derived.Test.YtoajommeiocfpaaDoorRows
namespace Go.Proofs.YtoajommeiocfpaaDoor
open Go Go.RowKit
set_option linter.unusedSimpArgs false
set_option linter.unusedVariables false
set_option maxRecDepth 100000

/-- The most of the first numbers. -/
def mostL (c : Nat → Nat) : Nat → Nat
  | 0 => 0
  | k + 1 => max (mostL c k) (c k)
/-- A set of at most two members is counted. -/
theorem p_count4 (s : Nat) (h : s < 4) (w : World) : Calls Tryd.prog 25 #[.int .u64 (s : Int)] w fun e w' => e = .returned (.int .i64 ((s % 2 + s / 2 : Nat) : Int)) ∧ w' = w := by
  have hs : s = 0 ∨ s = 1 ∨ s = 2 ∨ s = 3 := by omega
  have HO : ∀ V : World, Calls Tryd.prog 44 #[.int .u64 (s : Int)] V fun e w' => e = .returned (.int .i64 ((s % 2 + s / 2 : Nat) : Int)) ∧ w' = V := fun V => by
    rcases hs with rfl | rfl | rfl | rfl <;>
    · go_enter Tryd.func44, Tryd.ntmps44
      go_wp2
      go_ret
      exact ⟨by kernel_rfl, rfl⟩
  have HO := Lib.hid HO
  clear hs h
  generalize ((s % 2 + s / 2 : Nat) : Int) = r at *
  generalize (s : Int) = z at *
  go_enter Tryd.func25, Tryd.ntmps25
  go_wp2_with (go_at_call 44; (refine (HO.out _).mono ?_); rintro e w1 ⟨rfl, rfl⟩)
  go_ret
  exact ⟨rfl, rfl⟩
set_option maxHeartbeats 8000000 in
theorem p_Most (regs : Int) (A : Option Addr) (n cap : Nat) (q : Nat → Irx) (c : Nat → Nat) (w : World) (h : IrAt w A n q) (hr : RightM regs q n) (hc : ∀ i, i < n → c i ≤ 64)
    (HC : ∀ i, i < n → ∀ V, Calls Tryd.prog 25 #[.int .u64 ((laterB q n i).toNat : Int)] V fun e w' => e = .returned (.int .i64 (c i : Int)) ∧ w' = V) :
    Calls Tryd.prog 11 #[mirV regs A n cap] w fun e w' => e = .returned (.tuple #[.int .i64 (mostL c n : Int), .int .i64 0]) ∧ Below w.heap.size w w' := by
  have hmax := hr.max
  have HF := Lib.hid (FM.first (regs := regs) (cap := cap) h)
  have HRt := Lib.hid (fun V (hV : IrAt V A n q) => p_rightV regs A n cap q V hV)
  rw [chk_is.2 hr] at HRt
  have HBh := Lib.hid (fun V (hV : IrAt V A n q) => p_behind regs A n cap q V hV hr)
  have HCn := Lib.hid HC
  have HC64 := Lib.hid hc
  clear h hr HC hc
  go_enter Tryd.func11, Tryd.ntmps11
  go_wp2_with (first
    | (go_at_call 20; (refine (HRt.out _ HF.out.1).mono ?_); rintro e w1 ⟨rfl, hb⟩; have H1 := Lib.hid (HF.out.up hb); clear hb; have x0 := cellM H1.out.2.2 0 rfl; have x1 := cellM H1.out.2.2 1 rfl)
    | (go_at_call 21; (refine (HBh.out _ H1.out.1).mono ?_); rintro e w2 ⟨sb, rfl, hs, hb, hge⟩; have H2 := Lib.hid (And.intro hs (onM H1.out.2.1 hb)); clear hs hb hge x0 x1))
  clear HRt HBh HF H1
  go_loopw [13, 4] (fun i v wr => ∃ k : Nat, k ≤ n ∧ i = .int .i64 (k : Int) ∧ v = .int .i64 (mostL c k : Int) ∧ mostL c k ≤ 64 ∧ wr = w2) (fun i _ _ => n - (intOf i).toNat)
  case atStart => exact ⟨0, Nat.zero_le _, rfl, rfl, Nat.zero_le _, rfl⟩
  case round =>
    obtain ⟨k, hk, rfl, rfl, h64, rfl⟩ := hrel
    by_cases hlt : k < n
    · have hlt' : (k : Int) < (n : Int) := by omega
      have cs := (H2.out.1.cell hlt).1
      have HZ := Lib.hid (HCn.out k hlt)
      have hck := HC64.out k hlt
      go_wp2_with (go_at_call 25; (refine (HZ.out _).mono ?_); rintro e w3 ⟨rfl, rfl⟩)
      refine ⟨⟨k + 1, by omega, by rfl, ?_, ?_, trivial⟩, by simp [intOf]; omega⟩
      · rw [show mostL c (k + 1) = max (mostL c k) (c k) from rfl]
        congr 1
        omega
      · rw [show mostL c (k + 1) = max (mostL c k) (c k) from rfl]
        omega
    · obtain rfl : k = n := by omega
      go_wp2
      go_ret2
      exact ⟨rfl, H2.out.2⟩
end Go.Proofs.YtoajommeiocfpaaDoor
namespace Go.Proofs.YtoajommeiocfpaaDoor
open Go Go.RowKit Go.Sort Go.Proofs
set_option linter.unusedSimpArgs false
set_option linter.unusedVariables false
set_option maxRecDepth 100000

theorem p_sortS (g c : Nat) (d : Array Spx) (V : World) (hH : HoldsK encS 3 V g 0 d) (hb : g < V.heap.size) (hs : d.size < 4611686018427387904) :
    Calls Tryd.prog 40 #[.slice (some ⟨g, 0, none⟩) d.size c, .func (.func 41) #[] #[]] V fun e w' => e = .returned (.tuple #[]) ∧ ∃ d' n os, PermIn 0 d.size d d' ∧ SortedIn (ltOf cmpS) 0 d.size d' ∧ w' = sortWorldK encS 3 V g 0 n d' os := by
  have eg : ∀ args w, (callFunc 41 args).run Tryd.prog w = .ok (.enter 41 args) w := enters_of Tryd.func41 (by kernel_rfl) rfl
  exact AnyQ.slices_SortFunc Tryd.sortSp 3 Tryd.isAgg45 Tryd.sizeOf45 encS (fun _ => rfl) encS_one cmpS swoS 41 #[] g 0 c d V eg (cmpS_lays _ _ _) hH hb hs
theorem p_ordered (mb n : Nat) (S : Nat → Option (Nat × Nat)) (w : World) (h : MapIs Tryd.prog 3 w mb n (spV S)) (h64 : ∀ r, S r ≠ none → r < 64) (hne : ∃ r, S r ≠ none) :
    Calls Tryd.prog 23 #[.map (some mb)] w fun e w' => ∃ ys A c, e = .returned (.slice A ys.length c) ∧ OrdS S ys ∧ w'.ownsRow (w.heap.size + 1) 45 3 (.slice A ys.length c) ys.length (spansL ys) ∧ Below w.heap.size w w' := by
  refine (p_inOrder mb n S w h h64 (fun xs W e w' => ∃ ys A c, e = .returned (.slice A ys.length c) ∧ OrdS S ys ∧ w'.ownsRow (W.heap.size + 1) 45 3 (.slice A ys.length c) ys.length (spansL ys) ∧ Below W.heap.size W w') ?_).mono ?_
  · intro V v xs hx ho hb
    obtain ⟨A, c, rfl⟩ := own_formM ho
    have hpos : xs.length ≠ 0 := fun e => by
      obtain ⟨r, hr⟩ := hne
      have := (hx.2 r (by have := h64 r hr; omega)).1 hr
      rw [List.length_eq_zero_iff.1 e] at this
      cases this
    have ho' := ho
    rcases ho'.2 with ⟨h0, h1⟩ | ⟨g, c', cur, hv, hg, hcell, hn, hcap, hc, ht⟩
    · exact absurd h1 hpos
    injection hv with hA _ _
    have hlen := hx.1.few h64
    have H0 := owns_sortedS (n := 0) (d := xs.toArray) (os := #[]) (by simp) hA ho
    subst hA
    have hcall := p_sortS g c xs.toArray V H0.2.2 (Array.getElem?_eq_some_iff.1 hcell).1 (by simp; omega)
    rw [show xs.toArray.size = xs.length from by simp] at hcall
    refine hcall.mono ?_
    rintro e w' ⟨rfl, d', k, os, hp, hs, rfl⟩
    have ⟨hO, hl⟩ := ord_of hx hp hs
    have H1 := owns_sortedS (n := k) (d := d') (os := os) (by simpa using hl) rfl ho
    refine ⟨rfl, d'.toList, some ⟨g, 0, none⟩, c, by rw [hl], hO, by rw [hl]; exact H1.1, hb.grown H1.2.1 hb.size (fun k e => by injection e with e; omega)⟩
  · rintro e w' ⟨xs, _, h⟩
    exact h
end Go.Proofs.YtoajommeiocfpaaDoor
namespace Go.Proofs.YtoajommeiocfpaaDoor
open Go Go.RowKit
set_option linter.unusedSimpArgs false
set_option linter.unusedVariables false
set_option maxRecDepth 100000

theorem below_lo {W0 w w' : World} {v : Value} {n : Nat} {xs : List Value} {e : TypeId} {sz : Nat} (hb : W0.heap.size ≤ w.heap.size) (h : w'.ownsRow (w.heap.size + 1) e sz v n xs) : w'.ownsRow (W0.heap.size + 1) e sz v n xs := by
  refine ⟨h.1, ?_⟩
  rcases h.2 with h0 | ⟨g, c, cur, h1, h2, h3⟩
  · exact .inl h0
  · exact .inr ⟨g, c, cur, h1, by omega, h3⟩
theorem p_Spans (regs : Int) (A : Option Addr) (n cap : Nat) (q : Nat → Irx) (w : World) (h : IrAt w A n q) (hr : RightM regs q n) (ht : TbD w) :
    Calls Tryd.prog 10 #[mirV regs A n cap] w fun e w' => ∃ ys B c, e = .returned (.tuple #[.slice B ys.length c, .int .i64 0]) ∧ OrdS (spN q n n) ys ∧ w'.ownsRow (w.heap.size + 1) 45 3 (.slice B ys.length c) ys.length (spansL ys) ∧ Below w.heap.size w w' := by
  have HF := Lib.hid (FM.first (regs := regs) (cap := cap) h)
  have HRt := Lib.hid (fun V (hV : IrAt V A n q) => p_rightV regs A n cap q V hV)
  rw [chk_is.2 hr] at HRt
  have HG := Lib.hid (fun V (hV : IrAt V A n q) (hT : TbD V) => p_gather regs A n cap q V hV hr hT)
  have HO := Lib.hid (fun V mb N (hM : MapIs Tryd.prog 3 V mb N (spV (spN q n n))) => p_ordered mb N (spN q n n) V hM (fun r => spN_64 q n r n) (spN_some hr))
  have HT := Lib.hid ht
  clear h hr ht
  go_enter Tryd.func10, Tryd.ntmps10
  go_wp2_with (first
    | (go_at_call 20; (refine (HRt.out _ HF.out.1).mono ?_); rintro e w1 ⟨rfl, hb⟩; have H1 := Lib.hid (HF.out.up hb); clear hb; have x0 := cellM H1.out.2.2 0 rfl; have x1 := cellM H1.out.2.2 1 rfl)
    | (go_at_call 24; (refine (HG.out _ H1.out.1 (HT.out.below H1.out.2.1)).mono ?_); rintro e w2 ⟨mb, N, rfl, hN, hM, hb⟩; have H2 := Lib.hid (And.intro hM (onM H1.out.2.1 hb)); clear hM hb x0 x1)
    | (go_at_call 23; (refine (HO.out _ _ _ H2.out.1).mono ?_); rintro e w3 ⟨ys, B, c, rfl, hO, ho, hb⟩; have H3 := Lib.hid (And.intro hO (And.intro (below_lo H2.out.2.size ho) (onM H2.out.2 hb))); clear hO ho hb))
  go_ret2
  exact ⟨ys, B, c, rfl, H3.out⟩
end Go.Proofs.YtoajommeiocfpaaDoor
namespace Go.Proofs.YtoajommeiocfpaaDoor
open Go Go.RowKit
set_option linter.unusedSimpArgs false
set_option linter.unusedVariables false
set_option maxRecDepth 100000

def headL : Nat → Irx
  | 0 => ⟨1, 0, 0, 0, 7#32, 0, 0⟩
  | 1 => ⟨3, 1, 0, 0, 0#32, 0, 0⟩
  | 2 => ⟨4, 0, 0, 1, 0#32, 0, 0⟩
  | _ => ⟨19, 0, 0, 0, 0#32, 0, 0⟩
theorem headL_right : RightM 2 headL 4 := chk_is.1 (by decide)
abbrev headLLO : Obj := .cells #[.int .i64 1, .int .i64 0, .int .i64 0, .int .i64 0, .int .u32 7, .int .i64 0, .int .i64 0, .int .i64 3, .int .i64 1, .int .i64 0, .int .i64 0, .int .u32 0, .int .i64 0, .int .i64 0, .int .i64 4, .int .i64 0, .int .i64 0, .int .i64 1, .int .u32 0, .int .i64 0, .int .i64 0, .int .i64 19, .int .i64 0, .int .i64 0, .int .i64 0, .int .u32 0, .int .i64 0, .int .i64 0] 59
theorem headL_prog (w : World) : IrAt (w.alloc headLLO) (some ⟨w.heap.size, 0, none⟩) 4 headL := ⟨by unfold maxLen; omega, fun _ => ⟨w.heap.size, 0, rfl, by simp, fun i hi j u hj => by
  have hh : (w.alloc headLLO).heap[w.heap.size]? = some headLLO := World.alloc_heap_new w _
  have hj7 : j < 7 := (List.getElem?_eq_some_iff.1 hj).1
  unfold World.cell?
  rw [hh]
  have hi3 : i = 0 ∨ i = 1 ∨ i = 2 ∨ i = 3 := by omega
  have hj3 : j = 0 ∨ j = 1 ∨ j = 2 ∨ j = 3 ∨ j = 4 ∨ j = 5 ∨ j = 6 := by omega
  rcases hi3 with rfl | rfl | rfl | rfl <;> rcases hj3 with rfl | rfl | rfl | rfl | rfl | rfl | rfl <;> exact hj⟩⟩
def laterT (i : Nat) : Nat := if i = 0 then 1 else if i = 1 then 3 else if i = 2 then 1 else 0
theorem headL_later : ∀ i, i < 4 → (laterB headL 4 i).toNat = laterT i
  | 0, _ => by decide
  | 1, _ => by decide
  | 2, _ => by decide
  | 3, _ => by decide
  | i + 4, h => by omega
def spanT (r : Nat) : Option (Nat × Nat) := if r = 0 then some (0, 3) else if r = 1 then some (1, 2) else none
theorem bits_one : bitsOf 1#64 = [0] := by decide
theorem bits_three : bitsOf 3#64 = [0, 1] := by decide
theorem headL_set0 : setI headL 4 0 = 1#64 := by decide
theorem headL_set1 : setI headL 4 1 = 3#64 := by decide
theorem headL_set2 : setI headL 4 2 = 3#64 := by decide
theorem headL_set3 : setI headL 4 3 = 1#64 := by decide
theorem headL_spans : spN headL 4 4 = spanT := by
  funext r
  show spP (spP (spP (spP (fun _ => none) 0 (bitsOf (setI headL 4 0))) 1 (bitsOf (setI headL 4 1))) 2 (bitsOf (setI headL 4 2))) 3 (bitsOf (setI headL 4 3)) r = _
  rw [headL_set0, headL_set1, headL_set2, headL_set3, bits_one, bits_three]
  unfold spanT
  by_cases h0 : r = 0
  · subst h0; rfl
  · by_cases h1 : r = 1
    · subst h1; rfl
    · simp [spP, h0, h1]
theorem headL_ord : OrdS spanT [(0, 0, 3), (1, 1, 2)] := by
  refine ⟨⟨⟨fun x hx => ?_, by simp⟩, fun r hr => ?_⟩, ?_⟩
  · simp at hx
    rcases hx with rfl | rfl
    · exact ⟨0, 0, 3, rfl, rfl⟩
    · exact ⟨1, 1, 2, rfl, rfl⟩
  · unfold spanT
    by_cases h0 : r = 0
    · subst h0; simp
    · by_cases h1 : r = 1
      · subst h1; simp
      · simp [h0, h1]
        omega
  · rw [List.pairwise_cons]
    refine ⟨fun y hy => ?_, List.pairwise_singleton _ _⟩
    simp at hy; subst hy; exact .inl (by decide)
theorem headL_told {ys : List Spx} (h : OrdS (spN headL 4 4) ys) : ys = [(0, 0, 3), (1, 1, 2)] := by
  rw [headL_spans] at h
  refine ord_same (fun r hr => ?_) h headL_ord
  unfold spanT at hr
  by_cases h0 : r = 0
  · omega
  · by_cases h1 : r = 1
    · omega
    · rw [if_neg h0, if_neg h1] at hr; exact absurd rfl hr
/-- The example's two calls. -/
theorem headL_Most (V : World) (A : Option Addr) (cap : Nat) (h : IrAt V A 4 headL) : Calls Tryd.prog 11 #[mirV 2 A 4 cap] V fun e w' => e = .returned (.tuple #[.int .i64 2, .int .i64 0]) ∧ Below V.heap.size V w' := by
  refine (p_Most 2 A 4 cap headL (fun i => laterT i % 2 + laterT i / 2) V h headL_right (fun i hi => ?_) (fun i hi W => ?_)).mono ?_
  · unfold laterT; split; · decide
    split; · decide
    split <;> decide
  · rw [headL_later i hi]
    exact p_count4 (laterT i) (by unfold laterT; split; · decide
                                  split; · decide
                                  split <;> decide) W
  · rintro e w' ⟨he, hb⟩
    exact ⟨he, hb⟩
theorem headL_Spans (V : World) (A : Option Addr) (cap : Nat) (h : IrAt V A 4 headL) (ht : TbD V) : Calls Tryd.prog 10 #[mirV 2 A 4 cap] V fun e w' => ∃ g c, e = .returned (.tuple #[.slice (some ⟨g, 0, none⟩) 2 c, .int .i64 0]) ∧ (∀ j u, (spansL [(0, 0, 3), (1, 1, 2)])[j]? = some u → w'.cell? ⟨g, j, none⟩ = some u) ∧ Below V.heap.size V w' := by
  refine (p_Spans 2 A 4 cap headL V h headL_right ht).mono ?_
  rintro e w' ⟨ys, B, c, rfl, hO, ho, hb⟩
  obtain rfl := headL_told hO
  obtain ⟨g, c', hv⟩ := ownsRow_succ ho
  injection hv with h1 _ h3
  subst h1
  refine ⟨g, c, rfl, fun j u hj => ?_, hb⟩
  have hj6 : j < 6 := (List.getElem?_eq_some_iff.1 hj).1
  have := ho.cellAt j (by simpa using hj6)
  rw [this, ← hj]
set_option maxHeartbeats 4000000 in
theorem l_headL (w : World) (ht : TbD w) : Calls Tryd.prog 7 #[] w fun e w' => e = .returned (.bool true) ∧ Below w.heap.size w w' := by
  have HR := Lib.hid (fun V A cap h => headL_Most V A cap h)
  have HS := Lib.hid (fun V A cap h ht => headL_Spans V A cap h ht)
  have hX := And.intro (onM (lboxM w headLLO) (lboxM (w.alloc headLLO) (mirO 2 (some ⟨w.heap.size, 0, none⟩) 4 4))) (And.intro (World.alloc_heap_new (w.alloc headLLO) (mirO 2 (some ⟨w.heap.size, 0, none⟩) 4 4)) ((headL_prog w).below (lboxM (w.alloc headLLO) (mirO 2 (some ⟨w.heap.size, 0, none⟩) 4 4))))
  rw [show (w.alloc headLLO).heap.size = w.heap.size + 1 by simp] at hX
  have HX := Lib.hid hX
  have HT := Lib.hid (ht.below hX.1)
  clear hX ht
  go_enter Tryd.func7, Tryd.ntmps7
  go_wp2_with (first
    | (go_at_call 11; (refine (HR.out _ _ _ HX.out.2.2).mono ?_); rintro e w1 ⟨rfl, hb⟩; have H1 := Lib.hid (And.intro (onM HX.out.1 hb) (And.intro (HX.out.2.2.below hb) (And.intro (HT.out.below hb) (keepM HX.out.2.1 hb)))); clear hb; have x0 := cellM H1.out.2.2.2 0 rfl; have x1 := cellM H1.out.2.2.2 1 rfl)
    | (go_at_call 10; (refine (HS.out _ _ _ H1.out.2.1 H1.out.2.2.1).mono ?_); rintro e w2 ⟨g, c, rfl, hc, hb⟩; have H2 := Lib.hid (onM H1.out.1 hb); have y3 := hc 3 _ rfl; have y4 := hc 4 _ rfl; have y5 := hc 5 _ rfl; clear hb hc x0 x1))
  go_ret
  exact ⟨rfl, H2.out⟩
end Go.Proofs.YtoajommeiocfpaaDoor
namespace Go.Proofs.YtoajommeiocfpaaDoor
open Go Go.RowKit
set_option linter.unusedSimpArgs false
set_option linter.unusedVariables false

def brL : List Int := [0, 1, 56, 2, 57, 49, 28, 3, 61, 58, 42, 50, 38, 29, 17, 4, 62, 47, 59, 36, 45, 43, 51, 22, 53, 39, 33, 30, 24, 18, 12, 5, 63, 55, 48, 27, 60, 41, 37, 16, 46, 35, 44, 21, 52, 32, 23, 11, 54, 26, 40, 15, 34, 20, 31, 10, 25, 14, 19, 9, 13, 8, 7, 6]
theorem br_all : ∀ j : Fin 64, brL.getD j.1 0 = ((Lib.deBruijn64tab.getD j.1 0 : Nat) : Int) := by decide
theorem br_at (j : Nat) (hj : j < 64) : brL.getD j 0 = ((Lib.deBruijn64tab.getD j 0 : Nat) : Int) := br_all ⟨j, hj⟩
theorem tab_of_laid {W : World} (h : laidMetH Tryd.prog [("math/bits.deBruijn64tab", Rows.laid_math_bits_deBruijn64tab)] W) : TbD W := by
  rw [MakeChecks.laidMetH_plain _ _ _ (by kernel_rfl)] at h
  have bru : Lib.TabIs Tryd.prog W "math/bits.deBruijn64tab" .u8 brL := Lib.tabIs_of_head (g := 0) (t := 109) (e := 5) (n := 64) (by kernel_rfl) (by kernel_rfl) (by kernel_rfl) (by kernel_rfl) (by kernel_rfl) (by kernel_rfl) h
  have hc : ∀ j, j < 64 → W.cell? ⟨0, j, none⟩ = some (.int .u8 ((Lib.deBruijn64tab.getD j 0 : Nat) : Int)) := fun j hj => by
    have h1 := bru.cell (g := 0) (by kernel_rfl) j hj
    rw [h1, br_at j hj]
  refine ⟨?_, hc⟩
  rcases Nat.lt_or_ge 0 W.heap.size with g | g
  · exact g
  · have := hc 0 (by decide)
    simp [World.cell?, Array.getElem?_eq_none g] at this
end Go.Proofs.YtoajommeiocfpaaDoor
