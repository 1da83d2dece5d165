/-
  The program's layout of a decision in memory: sizes and ways: contracts. Conditions: those that each names.
-/
import Derived.Test.YtgpjiflgocgolaaLowMem
import Derived.Test.YtgpjiflgocgolaaMemory
import Derived.Test.YtgpjiflgocgolaaRegion
namespace Go.Proofs.Ytgpjiflgocgolaa
open Go Go.RowKit
set_option linter.unusedSimpArgs false
set_option linter.unusedVariables false

abbrev layO (A : Option Addr) (n cap lb fb : Nat) : Obj := .cells #[.slice A n cap, .slice (some ⟨lb, 0, none⟩) n n, .slice (some ⟨fb, 0, none⟩) (n + 1) (n + 1)] 72
/-- A layout: its nodes, which ways are long, where the nodes begin. -/
structure LayAt (B : Nat) (W : World) (b : Nat) (A : Option Addr) (n cap : Nat) (nd : Nat → Nd) (lb fb : Nat) (lg : Ways) (ft : Nat → Nat) : Prop where
  box : W.heap[b]? = some (layO A n cap lb fb)
  nds : NdAt W A n nd
  away : ∀ ab ao, A = some ⟨ab, ao, none⟩ → 0 < n → ab < B
  long : ∃ G, W.rowIs lb 99 (n * 2) G ∧ ∀ i, i < n → G (i * 2) = .bool (lg i).1 ∧ G (i * 2 + 1) = .bool (lg i).2
  first : ∃ F, W.rowIs fb 3 (n + 1) F ∧ ∀ i, i ≤ n → F i = .int .i64 (ft i : Int)
  up : B ≤ b ∧ B ≤ lb ∧ B ≤ fb ∧ lb ≠ fb ∧ lb ≠ b ∧ fb ≠ b
theorem lay_lt {B : Nat} {W : World} {b : Nat} {A : Option Addr} {n cap : Nat} {nd : Nat → Nd} {lb fb : Nat} {lg : Ways} {ft : Nat → Nat} (h : LayAt B W b A n cap nd lb fb lg ft) : b < W.heap.size ∧ lb < W.heap.size ∧ fb < W.heap.size := by
  obtain ⟨G, hG, _⟩ := h.long
  obtain ⟨F, hF, _⟩ := h.first
  exact ⟨(Array.getElem?_eq_some_iff.1 h.box).1, World.rowIs.lt hG, World.rowIs.lt hF⟩
theorem row_below {W W' : World} {g : Nat} {e : TypeId} {c : Nat} {F : Nat → Value} (h : W.rowIs g e c F) (hb : Below W.heap.size W W') : W'.rowIs g e c F := by
  obtain ⟨cur, hg, hr⟩ := h
  exact ⟨cur, (hb.block g (Array.getElem?_eq_some_iff.1 hg).1).trans hg, hr⟩
theorem LayAt.below {B : Nat} {W W' : World} {b : Nat} {A : Option Addr} {n cap : Nat} {nd : Nat → Nd} {lb fb : Nat} {lg : Ways} {ft : Nat → Nat} (h : LayAt B W b A n cap nd lb fb lg ft) (hb : Below W.heap.size W W') : LayAt B W' b A n cap nd lb fb lg ft := by
  obtain ⟨G, hG, g2⟩ := h.long
  obtain ⟨F, hF, f2⟩ := h.first
  exact ⟨(hb.block b (lay_lt h).1).trans h.box, h.nds.below hb, h.away, ⟨G, row_below hG hb, g2⟩, ⟨F, row_below hF hb, f2⟩, h.up⟩
/-- What lies at the layout's places. -/
theorem lay_box {B : Nat} {W : World} {b : Nat} {A : Option Addr} {n cap : Nat} {nd : Nat → Nd} {lb fb : Nat} {lg : Ways} {ft : Nat → Nat} (h : LayAt B W b A n cap nd lb fb lg ft) :
    W.cell? ⟨b, 0, none⟩ = some (.slice A n cap) ∧ W.cell? ⟨b, 1, none⟩ = some (.slice (some ⟨lb, 0, none⟩) n n) ∧ W.cell? ⟨b, 2, none⟩ = some (.slice (some ⟨fb, 0, none⟩) (n + 1) (n + 1)) := by
  have hk := h.box
  exact ⟨by rw [Lib.cell_of_heap hk]; rfl, by rw [Lib.cell_of_heap hk]; rfl, by rw [Lib.cell_of_heap hk]; rfl⟩
theorem lay_long {B : Nat} {W : World} {b : Nat} {A : Option Addr} {n cap : Nat} {nd : Nat → Nd} {lb fb : Nat} {lg : Ways} {ft : Nat → Nat} (h : LayAt B W b A n cap nd lb fb lg ft) {i : Nat} (hi : i < n) :
    W.cell? ⟨lb, i * 2, none⟩ = some (.bool (lg i).1) ∧ W.cell? ⟨lb, i * 2 + 1, none⟩ = some (.bool (lg i).2) := by
  obtain ⟨G, hG, g2⟩ := h.long
  exact ⟨by rw [World.rowIs.cell hG (i := i * 2) (by omega), (g2 i hi).1], by rw [World.rowIs.cell hG (i := i * 2 + 1) (by omega), (g2 i hi).2]⟩
theorem lay_first {B : Nat} {W : World} {b : Nat} {A : Option Addr} {n cap : Nat} {nd : Nat → Nd} {lb fb : Nat} {lg : Ways} {ft : Nat → Nat} (h : LayAt B W b A n cap nd lb fb lg ft) {i : Nat} (hi : i ≤ n) :
    W.cell? ⟨fb, i, none⟩ = some (.int .i64 (ft i : Int)) := by
  obtain ⟨F, hF, f2⟩ := h.first
  rw [World.rowIs.cell hF (i := i) (by omega), f2 i hi]
theorem p_many (x : Bool × Bool) (w : World) : Calls Try.prog 89 #[.agg #[.bool x.1, .bool x.2]] w fun e w' => e = .returned (.int .i64 (manyN x : Int)) ∧ Below w.heap.size w w' := by
  have HB := Lib.hid (lboxL w (.cells #[.bool x.1, .bool x.2] 99))
  obtain ⟨a, b⟩ := x
  cases a <;> cases b <;>
  (go_enter Try.func89, Try.ntmps89
   go_wp2
   go_ret
   exact ⟨rfl, HB.out⟩)
set_option maxHeartbeats 1000000 in
theorem p_sizeAt {B : Nat} {W : World} {b : Nat} {A : Option Addr} {n cap : Nat} {nd : Nat → Nd} {lb fb : Nat} {lg : Ways} {ft : Nat → Nat} (h : LayAt B W b A n cap nd lb fb lg ft) {i : Nat} (hi : i < n) :
    Calls Try.prog 52 #[.pointer (some ⟨b, 0, none⟩), .int .i64 i] W fun e w' => e = .returned (.int .i64 (sizeN (nd i) (lg i) : Int)) ∧ Below W.heap.size W w' := by
  have hlt' : (i : Int) < (n : Int) := by omega
  have HM := Lib.hid (fun w => p_many (lg i) w)
  have hm := many_le (lg i)
  obtain ⟨ab, ao, rfl, hl, c0, c1, c2, c3, c4, c5, c6, c7⟩ := nd_at h.nds hi
  have hb1 := lboxL W (ndO (nd i))
  have h1 := h.below hb1
  obtain ⟨k0, k1, k2⟩ := lay_box h
  obtain ⟨m0, m1, m2⟩ := lay_box h1
  obtain ⟨g0, g1⟩ := lay_long h1 hi
  have HB := Lib.hid hb1
  clear h h1 hb1
  unfold sizeN
  generalize nd i = x at c0 c1 c2 c3 c4 c5 c6 c7 m0 m1 m2 g0 g1 HB ⊢
  generalize lg i = y at HM hm g0 g1 ⊢
  obtain ⟨leaf, word, off, mask, op, k, t, f⟩ := x
  dsimp only [ndO] at m0 m1 m2 g0 g1 c0 c1 c2 c3 c4 c5 c6 c7 HB
  generalize hmy : manyN y = my at HM hm ⊢
  cases leaf with
  | true =>
    go_enter Try.func52, Try.ntmps52
    go_wp2
    go_ret
    exact ⟨rfl, HB.out⟩
  | false =>
    by_cases hk : mask = 4294967295
    · have hkb : ((mask : Int) == 4294967295) = true := by rw [hk]; rfl
      have HK := Lib.hid hk
      clear hk
      go_enter Try.func52, Try.ntmps52
      go_wp2_with (go_at_call 89; (with_reducible refine (HM.out _).mono ?_); rintro e w1 ⟨rfl, hb1⟩; have HB1 := Lib.hid hb1; clear hb1)
      go_ret
      exact ⟨by simp [HK.out], HB.out.trans (HB1.out.mono (by simp))⟩
    · have hkb : ((mask : Int) == 4294967295) = false := beq_false_of_ne (by omega)
      go_enter Try.func52, Try.ntmps52
      go_wp2_with (go_at_call 89; (with_reducible refine (HM.out _).mono ?_); rintro e w1 ⟨rfl, hb1⟩; have HB1 := Lib.hid hb1; clear hb1)
      go_ret
      exact ⟨by simp [hk], HB.out.trans (HB1.out.mono (by simp))⟩
/-- The cells are what they were; the first places come anew. -/
theorem LayAt.firsts {B : Nat} {W : World} {b : Nat} {A : Option Addr} {n cap : Nat} {nd : Nat → Nd} {lb fb : Nat} {lg : Ways} {ft ft' : Nat → Nat} (h : LayAt B W b A n cap nd lb fb lg ft) (he : ∀ i, i ≤ n → ft i = ft' i) : LayAt B W b A n cap nd lb fb lg ft' := by
  obtain ⟨F, hF, f2⟩ := h.first
  exact ⟨h.box, h.nds, h.away, h.long, ⟨F, hF, fun i hi => by rw [f2 i hi, he i hi]⟩, h.up⟩
theorem set_other {W : World} {g k : Nat} {v : Value} {p : Nat} (h : p ≠ g) : (W.setCell ⟨g, k, none⟩ v).heap[p]? = W.heap[p]? := by
  simp only [World.setCell]
  rw [Array.getElem?_modify, if_neg (fun e => h e.symm)]
theorem nd_set {W : World} {A : Option Addr} {n : Nat} {nd : Nat → Nd} {g k : Nat} {v : Value} (h : NdAt W A n nd) (hne : ∀ ab ao, A = some ⟨ab, ao, none⟩ → 0 < n → ab ≠ g) : NdAt (W.setCell ⟨g, k, none⟩ v) A n nd :=
  ⟨h.1, fun hn => by
    obtain ⟨b, o, rfl, hl, hc⟩ := h.2 hn
    refine ⟨b, o, rfl, by simpa [World.setCell] using hl, fun i hi j u hj => ?_⟩
    have := hc i hi j u hj
    unfold World.cell? at this ⊢
    rw [set_other (hne b o rfl hn)]
    exact this⟩
theorem row_set {W : World} {g p k : Nat} {e : TypeId} {c : Nat} {F : Nat → Value} {v : Value} (h : W.rowIs p e c F) (hne : p ≠ g) : (W.setCell ⟨g, k, none⟩ v).rowIs p e c F := by
  obtain ⟨cur, hg, hr⟩ := h
  exact ⟨cur, (set_other hne).trans hg, hr⟩
/-- A place more is known. -/
theorem LayAt.place {B : Nat} {W : World} {b : Nat} {A : Option Addr} {n cap : Nat} {nd : Nat → Nd} {lb fb : Nat} {lg : Ways} {ft : Nat → Nat} (h : LayAt B W b A n cap nd lb fb lg ft) (k v : Nat) :
    LayAt B (W.setCell ⟨fb, k, none⟩ (.int .i64 (v : Int))) b A n cap nd lb fb lg (fun j => if j = k then v else ft j) := by
  obtain ⟨G, hG, g2⟩ := h.long
  obtain ⟨F, hF, f2⟩ := h.first
  refine ⟨(set_other h.up.2.2.2.2.2.symm).trans h.box, nd_set h.nds (fun ab ao e hn e2 => by have := h.away ab ao e hn; have := h.up.2.2.1; omega), h.away, ⟨G, row_set hG h.up.2.2.2.1, g2⟩, ⟨_, World.rowIs.set hF k _, fun i hi => ?_⟩, h.up⟩
  by_cases e : i = k
  · simp [e]
  · simp [e, f2 i hi]
end Go.Proofs.Ytgpjiflgocgolaa
