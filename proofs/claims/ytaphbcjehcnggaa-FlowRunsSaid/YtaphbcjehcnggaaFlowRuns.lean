/-
  'FlowRuns': for every program and all bytes, the law of layer 10 on what a run comes to returns true, and leaves memory as it was. No condition.
-/
import Derived.Test.YtaphbcjehcnggaaFlowProg
import Derived.Test.YtaphbcjehcnggaaRowsSized
import Derived.Test.YtaphbcjehcnggaaCbpfArgs
namespace Go.Proofs.Ytaphbcjehcnggaa.flowRuns
open Go Go.ChangeShapes Go.WideShapes Go.ChangeAt Go.RowKit
set_option linter.unusedSimpArgs false
set_option linter.unusedVariables false

/-- Where a run is behind i steps. -/
def plcF (q : Nat → Ins) (n : Nat) (word : Nat → BitVec 32) (i : Nat) : Nat := (iterS q n 64 word i).place
/-- What is known of the places. -/
structure Way (q : Nat → Ins) (n : Nat) (word : Nat → BitVec 32) (K : Nat) : Prop where
  lt : ∀ i, i < K → plcF q n word i < n
  reach : ∀ i, i < K → reachF q n (plcF q n word i) = true
  step : ∀ i, i + 1 < K → plcF q n word (i + 1) ∈ nextF10 q n (plcF q n word i)
  zero : plcF q n word 0 = 0
  long : K ≤ farF q n
theorem way_step {q : Nat → Ins} {n : Nat} (h : Accepted q n) (word : Nat → BitVec 32) {K : Nat} (hall : ∀ i, i < K → (iterS q n 64 word i).done = false) {i : Nat} (hi : i + 1 < K) (hl : plcF q n word i < n) : plcF q n word (i + 1) ∈ nextF10 q n (plcF q n word i) := by
  rcases step_leads h word (iterS q n 64 word i) (hall i (by omega)) hl with e | e
  · have h1 : (iterS q n 64 word (i + 1)).done = true := e
    rw [hall (i + 1) hi] at h1; cases h1
  · exact e.2
theorem way_lt {q : Nat → Ins} {n : Nat} (h : Accepted q n) (word : Nat → BitVec 32) {K : Nat} (hall : ∀ i, i < K → (iterS q n 64 word i).done = false) : ∀ i, i < K → plcF q n word i < n ∧ reachF q n (plcF q n word i) = true ∧ farN q n n (plcF q n word i) + i ≤ farF q n
  | 0, _ => ⟨h.pos, reach_zero, Nat.le_refl _⟩
  | i + 1, hi => by
    obtain ⟨h1, h2, h3⟩ := way_lt h word hall i (by omega)
    have hs := way_step h word hall hi h1
    have := far_on hs
    exact ⟨(next_in hs).2.1, reach_next h2 hs, by omega⟩
theorem way_of {q : Nat → Ins} {n : Nat} (h : Accepted q n) (word : Nat → BitVec 32) {K : Nat} (h1 : 1 ≤ K) (hall : ∀ i, i < K → (iterS q n 64 word i).done = false) : Way q n word K := by
  refine ⟨fun i hi => (way_lt h word hall i hi).1, fun i hi => (way_lt h word hall i hi).2.1, fun i hi => way_step h word hall hi (way_lt h word hall i (by omega)).1, rfl, ?_⟩
  obtain ⟨a, _, b⟩ := way_lt h word hall (K - 1) (by omega)
  have := far_pos (q := q) a
  omega
theorem way_long {q : Nat → Ins} {n : Nat} {word : Nat → BitVec 32} {K X : Nat} (h : Way q n word K) (hX : X = farF q n) : ¬ (X : Int) < (K : Int) := by
  have := h.long
  rw [hX]; omega
/-- Cells in a row. -/
def CellsAt (W : World) (b o n : Nat) (F : Nat → Value) : Prop := b < W.heap.size ∧ ∀ i, i < n → W.cell? ⟨b, o + i, none⟩ = some (F i)
theorem CellsAt.below {W W' : World} {b o n : Nat} {F : Nat → Value} (h : CellsAt W b o n F) (hb : Below W.heap.size W W') : CellsAt W' b o n F :=
  ⟨Nat.lt_of_lt_of_le h.1 hb.size, fun i hi => (hb.cell (p := ⟨b, o + i, none⟩) h.1).trans (h.2 i hi)⟩
/-- What was told, ahead of the row of marks. -/
structure RB (w wB : World) (q : Nat → Ins) (n rb ro bg bo ab ao lb lo : Nat) (word : Nat → BitVec 32) (K : Nat) : Prop where
  reach : CellsAt wB rb ro n fun i => .bool (reachF q n i)
  blks : BlksAt wB (some ⟨bg, bo, none⟩) (blkF q n) (leadF q n)
  abv : CellsAt wB ab ao (blkF q n).length fun i => .int .i64 (aboveF q n i)
  plc : CellsAt wB lb lo K fun i => .int .i64 ((plcF q n word i : Nat) : Int)
  top : Below w.heap.size w wB
/-- And the marks. -/
structure RA (w wB W : World) (q : Nat → Ins) (n rb ro bg bo ab ao lb lo : Nat) (word : Nat → BitVec 32) (K : Nat) (f : Nat → Bool) : Prop where
  base : RB w wB q n rb ro bg bo ab ao lb lo word K
  row : BoolsAt W wB.heap.size (blkF q n).length f
  bel : Below wB.heap.size wB W
section
variable {w wB W : World} {q : Nat → Ins} {n rb ro bg bo ab ao lb lo : Nat} {word : Nat → BitVec 32} {K : Nat} {f : Nat → Bool} (h : RA w wB W q n rb ro bg bo ab ao lb lo word K f)
include h
theorem RA.drawn (k : Nat) : RA w wB (W.drewN k) q n rb ro bg bo ab ao lb lo word K f := ⟨h.base, h.row, below_drawn h.bel k⟩
theorem RA.put (k : Nat) : RA w wB (W.setCell ⟨wB.heap.size, k, none⟩ (.bool true)) q n rb ro bg bo ab ao lb lo word K (fun j => if j = k then true else f j) :=
  ⟨h.base, h.row.put k true, h.bel.setCell (p := ⟨wB.heap.size, k, none⟩) (Nat.le_refl _) _⟩
theorem RA.reach {i : Nat} (hi : i < n) : W.cell? ⟨rb, ro + i, none⟩ = some (.bool (reachF q n i)) := (h.bel.cell (p := ⟨rb, ro + i, none⟩) h.base.reach.1).trans (h.base.reach.2 i hi)
theorem RA.abv {i : Nat} (hi : i < (blkF q n).length) : W.cell? ⟨ab, ao + i, none⟩ = some (.int .i64 (aboveF q n i)) := (h.bel.cell (p := ⟨ab, ao + i, none⟩) h.base.abv.1).trans (h.base.abv.2 i hi)
theorem RA.plc {i : Nat} (hi : i < K) : W.cell? ⟨lb, lo + i, none⟩ = some (.int .i64 ((plcF q n word i : Nat) : Int)) := (h.bel.cell (p := ⟨lb, lo + i, none⟩) h.base.plc.1).trans (h.base.plc.2 i hi)
theorem RA.blk {b : Nat} (hb : b < (blkF q n).length) : W.cell? ⟨bg, bo + b * 3, none⟩ = some (.int .i64 ((fromB q n b : Nat) : Int)) ∧ W.cell? ⟨bg, bo + b * 3 + 1, none⟩ = some (.int .i64 ((toB q n b : Nat) : Int)) ∧
    ∃ An cn, W.cell? ⟨bg, bo + b * 3 + 2, none⟩ = some (.slice An (leadF q n b).length cn) ∧ IntsAt W An (leadF q n b) := by
  obtain ⟨g, o, e, _, hc⟩ := h.base.blks.below h.bel
  injection e with e; injection e with e1 e2; subst e1; subst e2
  exact hc b hb
end
/-- A block's first instruction is at a place just if it is the place's block, where the place is a block's first. -/
theorem from_is {q : Nat → Ins} {n y : Nat} (hr : reachF q n y = true) (hy : y < n) (hf : fromB q n (numF q n y) = y) {k : Nat} (hk : k < (blkF q n).length) : fromB q n k = y ↔ k = numF q n y := by
  have B := blk_all (q := q) (n := n)
  constructor
  · intro e
    have := (B.back k (fromB q n k) hk (Nat.le_refl _) (B.each k hk).1).2
    rw [e] at this
    exact this.symm
  · rintro rfl; exact hf
theorem num_zero (q : Nat → Ins) (n : Nat) : numF q n 0 = 0 := by
  have := blk_len (q := q) (n := n) 1
  show (blkN q n 1).length - 1 = 0
  omega
set_option maxHeartbeats 8000000 in
set_option maxRecDepth 100000 in
theorem walk (a0 : Option Addr) (len0 cap0 : Nat) (a1 : Option Addr) (len1 cap1 : Nat) (z1 : List Int) (w : World) (w0 : RowsOf [.u16, .u8, .u8, .u32] w a0 len0) (s0 : len0 * 8 ≤ 140737488351232) (w1 : IsRow .u8 w a1 len1 cap1 z1 ∧ cap1 * 1 ≤ 140737488351232) :
    Calls Try.prog 5 #[.slice a0 len0 cap0, .slice a1 len1 cap1] w fun e w' => e = .returned (.bool true) ∧ Below w.heap.size w w' := by
  obtain ⟨q, hL⟩ := lies_of_args w0 (by omega) w1.1
  have hlen1 : len1 ≤ 140737488351232 := by
    have h2 := w1.2
    rcases w1.1 with ⟨_, h, _⟩ | ⟨_, _, h, _⟩
    · omega
    · omega
  clear w0 w1
  have hn : len0 ≤ 17592186044416 := by omega
  have ho := hL.ok
  have HL := Lib.hid hL
  have HACC := Lib.hid (fun V (hV : ProgAt V a0 len0 q) => r_Accepted cap0 hV ho)
  by_cases hE : checkE q len0 = 0
  rotate_left
  · have hd : decide (checkE q len0 = 0) = false := decide_eq_false hE
    rw [hd] at HACC
    clear hL ho hE hd
    go_enter Try.func5, Try.ntmps5
    go_wp2_with (first
      | (go_at_call 18; (with_reducible refine (HACC.out _ H1.out.1).mono ?_); rintro e w2 ⟨rfl, hb⟩; have H2 := Lib.hid (H1.out.2.trans (hb.mono H1.out.2.size)); clear hb)
      | (go_at_call 8; (with_reducible refine (l_head10 _).mono ?_); rintro e w1 ⟨rfl, hb⟩; have H1 := Lib.hid (And.intro (HL.out.prog.below hb) hb); clear hb))
    go_ret
    exact ⟨rfl, H2.out⟩
  have hd : decide (checkE q len0 = 0) = true := decide_eq_true hE
  rw [hd] at HACC
  clear hd
  by_cases h64 : len1 = 64
  rotate_left
  · have hd2 : ((len1 : Int) != 64) = true := bne_iff_ne.2 (by omega)
    clear hL ho hE h64
    go_enter Try.func5, Try.ntmps5
    go_wp2_with (first
      | (go_at_call 18; (with_reducible refine (HACC.out _ H1.out.1).mono ?_); rintro e w2 ⟨rfl, hb⟩; have H2 := Lib.hid (H1.out.2.trans (hb.mono H1.out.2.size)); clear hb)
      | (go_at_call 8; (with_reducible refine (l_head10 _).mono ?_); rintro e w1 ⟨rfl, hb⟩; have H1 := Lib.hid (And.intro (HL.out.prog.below hb) hb); clear hb))
    go_ret
    exact ⟨rfl, H2.out⟩
  subst h64
  have hacc := check_is.1 hE
  have hpos := hacc.pos
  have hmax := hacc.max
  obtain ⟨z, hz⟩ : ∃ z : Nat → Int, z = fun i => z1.getD i 0 := ⟨_, rfl⟩
  rw [← hz] at HL
  clear hz hL
  obtain ⟨word, hword⟩ : ∃ word, word = wordZ z := ⟨_, rfl⟩
  have HAC := Lib.hid hacc
  have hN0 : 0 < (blkF q len0).length := blk_some hpos
  have HR : Hid (∀ V, ProgAt V a0 len0 q → Calls Try.prog 14 #[.slice a0 len0 cap0] V fun e w' => ∃ b o c, e = .returned (.tuple #[.slice (some ⟨b, o, none⟩) len0 c, .int .i64 0]) ∧ CellsAt w' b o len0 (fun i => .bool (reachF q len0 i)) ∧ Below V.heap.size V w') := Lib.hid (fun V hV => by
    refine (p_Reach10 cap0 hV ho hn).mono ?_
    rintro e w' ⟨A', m, c, E, rfl, (⟨_, rfl, rfl, hh⟩ | ⟨h0, _⟩), hb⟩
    · obtain ⟨b, o, rfl, h1, h2⟩ := hh hpos
      exact ⟨b, o, c, rfl, ⟨h1, h2⟩, hb⟩
    · exact absurd hE h0)
  have HB : Hid (∀ V, ProgAt V a0 len0 q → Calls Try.prog 15 #[.slice a0 len0 cap0] V fun e w' => ∃ b o c, e = .returned (.tuple #[.slice (some ⟨b, o, none⟩) (blkF q len0).length c, .int .i64 0]) ∧ BlksAt w' (some ⟨b, o, none⟩) (blkF q len0) (leadF q len0) ∧ Below V.heap.size V w') := Lib.hid (fun V hV => by
    refine (p_Blocks10 cap0 hV ho hn).mono ?_
    rintro e w' ⟨A', m, c, E, rfl, (⟨_, rfl, rfl, hh⟩ | ⟨h0, _⟩), hb⟩
    · have hh' := hh
      obtain ⟨b, o, rfl, _, _⟩ := hh'
      exact ⟨b, o, c, rfl, hh, hb⟩
    · exact absurd hE h0)
  have HA : Hid (∀ V, ProgAt V a0 len0 q → Calls Try.prog 16 #[.slice a0 len0 cap0] V fun e w' => ∃ b o c, e = .returned (.tuple #[.slice (some ⟨b, o, none⟩) (blkF q len0).length c, .int .i64 0]) ∧ CellsAt w' b o (blkF q len0).length (fun i => .int .i64 (aboveF q len0 i)) ∧ Below V.heap.size V w') := Lib.hid (fun V hV => by
    refine (p_Above10 cap0 hV ho hn).mono ?_
    rintro e w' ⟨A', m, c, E, rfl, (⟨_, rfl, rfl, hh⟩ | ⟨h0, _⟩), hb⟩
    · obtain ⟨b, o, rfl, h1, h2⟩ := hh hN0
      exact ⟨b, o, c, rfl, ⟨h1, h2⟩, hb⟩
    · exact absurd hE h0)
  have HX : Hid (∀ V, ProgAt V a0 len0 q → Calls Try.prog 17 #[.slice a0 len0 cap0] V fun e w' => e = .returned (.tuple #[.int .i64 ((farF q len0 : Nat) : Int), .int .i64 0]) ∧ Below V.heap.size V w') := Lib.hid (fun V hV => by
    refine (p_Longest10 cap0 hV ho hn).mono ?_
    rintro e w' ⟨m, E, rfl, (⟨_, rfl, rfl⟩ | ⟨h0, _⟩), hb⟩
    · exact ⟨rfl, hb⟩
    · exact absurd hE h0)
  have HW : Hid (∀ V, Lies V a0 len0 q a1 64 z → Calls Try.prog 23 #[.slice a0 len0 cap0, .slice a1 64 cap1] V fun e w' => ∃ b o c K, e = .returned (.slice (some ⟨b, o, none⟩) K c) ∧ CellsAt w' b o K (fun i => .int .i64 ((plcF q len0 word i : Nat) : Int)) ∧ Below V.heap.size V w' ∧ Way q len0 word K) := Lib.hid (fun V hV => by
    refine (l_walked cap0 cap1 hV hmax).mono ?_
    rintro e w' ⟨A', c, K, rfl, hi, hb, h1, hall, _⟩
    have hlen := places_len q len0 (wordZ z) K
    obtain ⟨b, o, rfl, h2, h3⟩ := hi (by omega)
    refine ⟨b, o, c, K, rfl, ⟨h2, fun i hi' => ?_⟩, hb, by rw [hword]; exact way_of hacc _ h1 hall⟩
    have : w'.cell? ⟨b, o + i, none⟩ = some (.int .i64 (((placesF q len0 (wordZ z) K).getD i 0 : Nat) : Int)) := h3 i (by omega)
    rw [places_get q len0 (wordZ z) hi'] at this
    rw [hword]
    exact this)
  have hNle := blk_len (q := q) (n := len0) len0
  obtain ⟨N, hN⟩ : ∃ N, N = (blkF q len0).length := ⟨_, rfl⟩
  have hNle : N ≤ len0 := by rw [hN]; exact hNle
  have HNN := Lib.hid hN
  rw [← hN] at HB HA hN0
  obtain ⟨X, hX⟩ : ∃ X, X = farF q len0 := ⟨_, rfl⟩
  have HXX := Lib.hid hX
  rw [← hX] at HX
  have hne1 : ((len0 : Int) != (len0 : Int)) = false := bne_self_eq_false _
  have hne2 : ((N : Int) != (N : Int)) = false := bne_self_eq_false _
  obtain ⟨O, hmk, hO⟩ := make_zero 30 4 (.bool false) 1 Try.underlying30 info_bool10 rfl N (by omega) (by omega)
  have HOO := Lib.hid hO
  clear ho hE hN hX hO hacc hword
  go_enter Try.func5, Try.ntmps5
  go_wp2_with (first
    | (go_at_call 23; (with_reducible refine (HW.out _ H6.out.1).mono ?_); rintro e wB ⟨lb, lo, c7, K, rfl, hh, hb, hway⟩; have HY := Lib.hid hway; have hKX : ¬ (X : Int) < (K : Int) := way_long hway HXX.out; have hKXd : decide (X < K) = false := decide_eq_false (by omega); have hKXe : decide ((X : Int) < (K : Int)) = false := decide_eq_false hKX; have HRB := Lib.hid (show RB w wB q len0 rb ro bg bo ab ao lb lo word K from ⟨H6.out.2.2.1.below hb, H6.out.2.2.2.1.below hb, H6.out.2.2.2.2.below hb, hh, H6.out.2.1.trans (hb.mono H6.out.2.1.size)⟩); clear hh hb hway)
    | (go_at_call 17; (with_reducible refine (HX.out _ H5.out.1.prog).mono ?_); rintro e w6 ⟨rfl, hb⟩; have H6 := Lib.hid (And.intro (H5.out.1.below hb) (And.intro (H5.out.2.1.trans (hb.mono H5.out.2.1.size)) (And.intro (H5.out.2.2.1.below hb) (And.intro (H5.out.2.2.2.1.below hb) (H5.out.2.2.2.2.below hb))))); clear hb)
    | (go_at_call 16; (with_reducible refine (HA.out _ H4.out.1.prog).mono ?_); rintro e w5 ⟨ab, ao, c5, rfl, hh, hb⟩; have H5 := Lib.hid (And.intro (H4.out.1.below hb) (And.intro (H4.out.2.1.trans (hb.mono H4.out.2.1.size)) (And.intro (H4.out.2.2.1.below hb) (And.intro (H4.out.2.2.2.below hb) (show CellsAt w5 ab ao (blkF q len0).length (fun i => .int .i64 (aboveF q len0 i)) from HNN.out ▸ hh))))); clear hh hb)
    | (go_at_call 15; (with_reducible refine (HB.out _ H3.out.1.prog).mono ?_); rintro e w4 ⟨bg, bo, c4, rfl, hh, hb⟩; have H4 := Lib.hid (And.intro (H3.out.1.below hb) (And.intro (H3.out.2.1.trans (hb.mono H3.out.2.1.size)) (And.intro (H3.out.2.2.below hb) hh))); clear hh hb)
    | (go_at_call 14; (with_reducible refine (HR.out _ H2.out.1.prog).mono ?_); rintro e w3 ⟨rb, ro, c3, rfl, hh, hb⟩; have H3 := Lib.hid (And.intro (H2.out.1.below hb) (And.intro (H2.out.2.trans (hb.mono H2.out.2.size)) hh)); clear hh hb)
    | (go_at_call 18; (with_reducible refine (HACC.out _ H1.out.1.prog).mono ?_); rintro e w2 ⟨rfl, hb⟩; have H2 := Lib.hid (And.intro (H1.out.1.below hb) (H1.out.2.trans (hb.mono H1.out.2.size))); clear hb)
    | (go_at_call 8; (with_reducible refine (l_head10 _).mono ?_); rintro e w1 ⟨rfl, hb⟩; have H1 := Lib.hid (And.intro (HL.out.below hb) hb); clear hb))
  have HS : Hid (RA w wB (wB.alloc O) q len0 rb ro bg bo ab ao lb lo word K (fun _ => false)) := Lib.hid ⟨HRB.out, HNN.out ▸ HOO.out wB, lbox10 _ _⟩
  clear H1 H2 H3 H4 H5 H6 HR HB HA HX HW HL HACC HOO hmk
  go_loopw [17, 18] (fun nv iv wr => ∃ (i : Nat) (f : Nat → Bool), i ≤ K ∧ iv = .int .i64 (i : Int) ∧ RA w wB wr q len0 rb ro bg bo ab ao lb lo word K f ∧ ((i = 0 ∧ nv = .int .i64 (-1) ∧ ∀ j, f j = false) ∨ (∃ m t : Nat, m + 1 = i ∧ t = numF q len0 (plcF q len0 word m) ∧ nv = .int .i64 (t : Int) ∧ Dom q len0 (fun x => f x = true) ∧ f t = true))) (fun _ iv _ => K - (intOf iv).toNat)
  case atStart => exact ⟨0, fun _ => false, by omega, rfl, HS.out, .inl ⟨rfl, rfl, fun _ => rfl⟩⟩
  case round =>
    obtain ⟨i, f, hi, rfl, hR, hst⟩ := hrel
    have HR := Lib.hid hR
    clear HS
    by_cases hlt : i < K
    · have hlt' : (i : Int) < (K : Int) := by omega
      have hKn : K ≤ len0 + 17592186044416 := by
        have h1 := HY.out.long
        have h2 := far_le (q := q) (n := len0) len0 0
        have h3 : farF q len0 = farN q len0 len0 0 := rfl
        omega
      have hw1 : IntKind.i64.wrap ((i : Int) + 1) = ((i + 1 : Nat) : Int) := by rw [IntWalk.i64_in _ (by omega)]; omega
      have hr := HY.out.reach i hlt
      have hyn := HY.out.lt i hlt
      have c1 := hR.plc hlt
      obtain ⟨y, hy⟩ : ∃ y, y = plcF q len0 word i := ⟨_, rfl⟩
      rw [← hy] at hr hyn c1
      have c2 := hR.reach hyn
      rw [hr] at c2
      have hyn' : (y : Int) < (len0 : Int) := by omega
      have HYY := Lib.hid hy
      have HRY := Lib.hid hr
      have hcome := (blk_all (q := q) (n := len0)).come y hyn hr
      obtain ⟨T, hT⟩ : ∃ T, T = numF q len0 y := ⟨_, rfl⟩
      rw [← hT] at hcome
      obtain ⟨hTN, hcm⟩ := hcome
      rw [← HNN.out] at hTN
      have HCM := Lib.hid hcm
      have hTN' : (T : Int) < (N : Int) := by omega
      have HTT := Lib.hid hT
      clear hy hr hT hcm hR
      rcases hst with ⟨h0, rfl, hf0⟩ | ⟨m, t, hmi, htm, rfl, hD, hft⟩
      · have hz0 : ((i : Int) == 0) = true := by rw [h0]; rfl
        have HFR : Hid (fromB q len0 T = y) := Lib.hid (by
          have h1 : y = 0 := by rw [HYY.out, h0]; exact HY.out.zero
          have h2 := HCM.out.1
          show fromB q len0 T = y
          have h3 : fromB q len0 T ≤ y := h2
          omega)
        have HDD : Hid (Dom q len0 (fun x => f x = true ∨ x = T)) := Lib.hid (by
          have h1 : y = 0 := by rw [HYY.out, h0]; exact HY.out.zero
          have h2 : T = 0 := by rw [HTT.out, h1]; exact num_zero q len0
          have h3 := dom_zero (q := q) (n := len0) (by rw [← HNN.out]; exact hN0)
          rw [h2]
          intro x hx
          have hx' : x = 0 := hx.elim (fun e => by rw [hf0 x] at e; cases e) id
          exact ⟨(h3 x hx').1, fun c hc hf => ⟨.inr ((h3 x hx').2 c hc hf).1, ((h3 x hx').2 c hc hf).2⟩⟩)
        clear h0 hf0
        go_wp2
        go_quiet (fail)
        have HR2 := Lib.hid (HR.out.drawn nq)
        clear c1 c2 
        generalize wr.drewN nq = V at HR2 ⊢
        go_wp2
        go_loopw [19, 20] (fun to k wr => ∃ kk : Nat, kk ≤ N ∧ k = .int .i64 (kk : Int) ∧ to = .int .i64 (if T < kk then (T : Int) else -1) ∧ RA w wB wr q len0 rb ro bg bo ab ao lb lo word K f) (fun _ k _ => N - (intOf k).toNat)
        case atStart => exact ⟨0, by omega, rfl, by rw [if_neg (by omega)], HR2.out⟩
        case round =>
          obtain ⟨kk, hkk, rfl, rfl, hP⟩ := hrel
          have HP := Lib.hid hP
          clear HR2
          by_cases hl : kk < N
          · have hl' : (kk : Int) < (N : Int) := by omega
            have hw2 : IntKind.i64.wrap ((kk : Int) + 1) = ((kk + 1 : Nat) : Int) := by rw [IntWalk.i64_in _ (by omega)]; omega
            have c0 := (hP.blk (HNN.out ▸ hl)).1
            have c1 := hP.plc hlt
            rw [← HYY.out] at c1
            clear hP
            have hfi := from_is HRY.out hyn (by rw [← HTT.out]; exact HFR.out) (HNN.out ▸ hl : kk < (blkF q len0).length)
            rw [← HTT.out] at hfi
            obtain ⟨tv, htv⟩ : ∃ tv : Int, tv = if T < kk then (T : Int) else -1 := ⟨_, rfl⟩
            rw [← htv]
            by_cases hkT : kk = T
            · rw [hfi.2 hkT] at c0
              have hb1 : ((y : Int) == (y : Int)) = true := beq_self_eq_true _
              have HE2 : Hid ((kk : Int) = if T < kk + 1 then (T : Int) else -1) := Lib.hid (by rw [if_pos (by omega), hkT])
              clear hfi htv hkT
              go_wp2
              go_quiet (fail)
              go_wp2
              exact ⟨⟨kk + 1, by omega, by go_num, by rw [← HE2.out], HP.out.drawn _⟩, by simp [intOf]; omega⟩
            · have hxy : fromB q len0 kk ≠ y := fun e => hkT (hfi.1 e)
              have HE2 : Hid (tv = if T < kk + 1 then (T : Int) else -1) := Lib.hid (by
                rw [htv]
                by_cases g : T < kk
                · rw [if_pos g, if_pos (by omega)]
                · rw [if_neg g, if_neg (by omega)])
              clear hfi htv hkT
              generalize fromB q len0 kk = x at c0 hxy
              have hb1 : ((x : Int) == (y : Int)) = false := beq_false_of_ne (by omega)
              clear hxy
              go_wp2
              go_quiet (fail)
              go_wp2
              exact ⟨⟨kk + 1, by omega, by go_num, by rw [← HE2.out], HP.out.drawn _⟩, by simp [intOf]; omega⟩
          · obtain rfl : N = kk := by omega
            clear hP
            rw [if_pos hTN]
            go_wp2
            go_loopw [21, 22] (fun ld k wr => ld = .bool true ∧ RA w wB wr q len0 rb ro bg bo ab ao lb lo word K f) (fun _ _ _ => 0)
            case atStart => exact ⟨rfl, HP.out⟩
            case round =>
              obtain ⟨rfl, hQ⟩ := hrel
              have HQ := Lib.hid hQ
              clear HP hQ
              go_wp2
              have hT0c : ¬ (T : Int) < 0 := by omega
              have hT0b : decide ((T : Int) < 0) = false := decide_eq_false hT0c
              have hT0d : ((T : Int) < 0) = False := eq_false hT0c
              go_quiet (fail)
              clear hT0b hT0c hT0d
              have HR3 := Lib.hid (HQ.out.drawn nq)
              clear hz0
              generalize wr.drewN nq = V3 at HR3 ⊢
              have c5 := HR3.out.abv (HNN.out ▸ hTN)
              have HAV : Hid (∀ c : Nat, (f c = true ∨ c = T) → c ≤ T → aboveF q len0 c = -1 ∨ ∃ c' : Nat, aboveF q len0 c = (c' : Int) ∧ c' < c ∧ c' < T ∧ f c' = true) := Lib.hid (fun c hc hcT => by
                rcases above_been HDD.out hc with e | ⟨c', e1, e2, e3, e4⟩
                · exact .inl e
                · refine .inr ⟨c', e1, e2, by omega, ?_⟩
                  rcases e3 with e3 | e3
                  · exact e3
                  · omega)
              have hav := HAV.out T (.inr rfl) (Nat.le_refl _)
              generalize aboveF q len0 T = av at c5 hav
              have hav2 : av = -1 ∨ ∃ c : Nat, av = (c : Int) ∧ c < T ∧ f c = true := by
                rcases hav with e | ⟨c', e1, e2, e3, e4⟩
                · exact .inl e
                · exact .inr ⟨c', e1, e3, e4⟩
              have HV2 := Lib.hid hav2
              clear hav hav2
              go_wp2
              clear c5
              go_loopw [23] (fun a wr => ∃ av : Int, a = .int .i64 av ∧ (av = -1 ∨ ∃ c : Nat, av = (c : Int) ∧ c < T ∧ f c = true) ∧ RA w wB wr q len0 rb ro bg bo ab ao lb lo word K f) (fun a _ => (intOf a + 1).toNat)
              case atStart => exact ⟨av, rfl, HV2.out, HR3.out⟩
              case round =>
                obtain ⟨a, rfl, hav, hU⟩ := hrel
                have HU := Lib.hid hU
                clear HR3 HV2
                rcases hav with rfl | ⟨c, rfl, hcT, hfc⟩
                · have c6 := hU.row.cell (HNN.out ▸ hTN)
                  have c7 := hU.row.free T
                  clear hU
                  go_wp2
                  exact ⟨⟨i + 1, fun j => if j = T then true else f j, by omega, by go_num, HU.out.put T, .inr ⟨i, T, rfl, by rw [← HYY.out]; exact HTT.out, rfl, fun x hx => by
                    have conv : ∀ z, (if z = T then true else f z) = true ↔ (f z = true ∨ z = T) := fun z => by
                      by_cases g : z = T
                      · rw [if_pos g]; simp [g]
                      · rw [if_neg g]; simp [g]
                    obtain ⟨d1, d2⟩ := HDD.out x ((conv x).1 hx)
                    exact ⟨d1, fun c hc hf => ⟨(conv c).2 (d2 c hc hf).1, (d2 c hc hf).2⟩⟩, if_pos rfl⟩⟩, by simp [intOf]; omega⟩
                · have hcN : c < N := by omega
                  have hcN' : (c : Int) < (N : Int) := by omega
                  have hc0 : (0 : Int) ≤ (c : Int) := by omega
                  have hcT' : ¬ (T : Int) ≤ (c : Int) := by omega
                  have c6 := hU.row.cell (HNN.out ▸ hcN)
                  rw [hfc] at c6
                  have c7 := hU.abv (HNN.out ▸ hcN)
                  have hav := HAV.out c (.inl hfc) (by omega)
                  clear hU hfc
                  generalize aboveF q len0 c = av2 at c7 hav
                  have HV3 := Lib.hid hav
                  clear hav
                  go_wp2
                  refine ⟨⟨av2, rfl, ?_, HU.out⟩, ?_⟩
                  · rcases HV3.out with e | ⟨c', e1, e2, e3, e4⟩
                    · exact .inl e
                    · exact .inr ⟨c', e1, e3, e4⟩
                  · rcases HV3.out with e | ⟨c', e1, e2, e3, e4⟩
                    · rw [e]; simp [intOf]
                    · rw [e1]; simp [intOf]; omega
      · have hz0 : ((i : Int) == 0) = false := beq_false_of_ne (by omega)
        have hmw : IntKind.i64.wrap ((i : Int) - 1) = (m : Int) := by rw [IntWalk.i64_in _ (by omega)]; omega
        have hmK : m < K := by omega
        have hmK' : (m : Int) < (K : Int) := by omega
        have hpr := HY.out.reach m hmK
        have hpn := HY.out.lt m hmK
        have hpy : y ∈ nextF10 q len0 (plcF q len0 word m) := by rw [HYY.out, ← hmi]; exact HY.out.step m (by omega)
        obtain ⟨p, hp⟩ : ∃ p, p = plcF q len0 word m := ⟨_, rfl⟩
        rw [← hp] at htm hpr hpn hpy
        have HPP := Lib.hid hp
        have hcp := (blk_all (q := q) (n := len0)).come p hpn hpr
        rw [← htm] at hcp
        have htN : t < N := by rw [HNN.out]; exact hcp.1
        have htN' : (t : Int) < (N : Int) := by omega
        have ht0 : (0 : Int) ≤ (t : Int) := by omega
        have hpw : IntKind.i64.wrap ((p : Int) + 1) = (p : Int) + 1 := IntWalk.i64_in _ (by omega)
        have hway := way_on hpr hpy
        rw [← htm, ← HTT.out] at hway
        obtain ⟨E, hE⟩ : ∃ E, E = toB q len0 t := ⟨_, rfl⟩
        rw [← hE] at hway
        have HEE := Lib.hid hE
        have c3 : wr.cell? ⟨lb, lo + m, none⟩ = some (.int .i64 (p : Int)) := by rw [HPP.out]; exact HR.out.plc hmK
        have c4 : wr.cell? ⟨bg, bo + t * 3 + 1, none⟩ = some (.int .i64 (E : Int)) := by rw [hE]; exact (HR.out.blk (by rw [← HNN.out]; exact htN)).2.1
        have hEn : E ≤ len0 := by rw [hE]; exact ((blk_all (q := q) (n := len0)).each t (by rw [← HNN.out]; exact htN)).2
        clear hp hcp hE
        have HMI := Lib.hid (And.intro hmi (And.intro htm (And.intro hD hft)))
        clear hmi htm hD hft hpr hpy
        rcases hway with ⟨wy1, wy2, wy3⟩ | ⟨wy1, wy2, wy3, wy4, wy5⟩
        · have hq : ((y : Int) == (p : Int) + 1) = true := by rw [beq_iff_eq]; omega
          have hyE : (y : Int) < (E : Int) := by omega
          have HU := Lib.hid wy3
          clear wy1 wy2 wy3
          go_wp2
          go_quiet (fail)
          go_wp2
          exact ⟨⟨i + 1, f, by omega, by go_num, HR.out.drawn _, .inr ⟨i, t, rfl, by rw [← HYY.out, ← HTT.out]; exact HU.out.symm, rfl, HMI.out.2.2.1, HMI.out.2.2.2⟩⟩, by simp [intOf]; omega⟩
        · have HFR : Hid (fromB q len0 T = y) := Lib.hid wy2.symm
          have HDD : Hid (Dom q len0 (fun x => f x = true ∨ x = T)) := Lib.hid (dom_on HMI.out.2.2.1 HMI.out.2.2.2 wy3)
          have HLD : Hid (T ∈ leadF q len0 t) := Lib.hid wy3
          have hEw : IntKind.i64.wrap ((E : Int) - 1) = (p : Int) := by rw [IntWalk.i64_in _ (by omega)]; omega
          have hpp : ((p : Int) != (p : Int)) = false := bne_self_eq_false _
          have HU1 := Lib.hid wy1
          clear wy2 wy3 wy4 wy5
          by_cases hyp : y = p + 1
          · have hq : ((y : Int) == (p : Int) + 1) = true := by rw [beq_iff_eq]; omega
            have hyE : ¬ (y : Int) < (E : Int) := by omega
            clear hyp wy1
            go_wp2
            go_quiet (fail)
            have HR2 := Lib.hid (HR.out.drawn nq)
            clear c1 c2 c3 c4
            generalize wr.drewN nq = V at HR2 ⊢
            go_wp2
            go_loopw [19, 20] (fun to k wr => ∃ kk : Nat, kk ≤ N ∧ k = .int .i64 (kk : Int) ∧ to = .int .i64 (if T < kk then (T : Int) else -1) ∧ RA w wB wr q len0 rb ro bg bo ab ao lb lo word K f) (fun _ k _ => N - (intOf k).toNat)
            case atStart => exact ⟨0, by omega, rfl, by rw [if_neg (by omega)], HR2.out⟩
            case round =>
              obtain ⟨kk, hkk, rfl, rfl, hP⟩ := hrel
              have HP := Lib.hid hP
              clear HR2
              by_cases hl : kk < N
              · have hl' : (kk : Int) < (N : Int) := by omega
                have hw2 : IntKind.i64.wrap ((kk : Int) + 1) = ((kk + 1 : Nat) : Int) := by rw [IntWalk.i64_in _ (by omega)]; omega
                have c0 := (hP.blk (HNN.out ▸ hl)).1
                have c1 := hP.plc hlt
                rw [← HYY.out] at c1
                clear hP
                have hfi := from_is HRY.out hyn (by rw [← HTT.out]; exact HFR.out) (HNN.out ▸ hl : kk < (blkF q len0).length)
                rw [← HTT.out] at hfi
                obtain ⟨tv, htv⟩ : ∃ tv : Int, tv = if T < kk then (T : Int) else -1 := ⟨_, rfl⟩
                rw [← htv]
                by_cases hkT : kk = T
                · rw [hfi.2 hkT] at c0
                  have hb1 : ((y : Int) == (y : Int)) = true := beq_self_eq_true _
                  have HE2 : Hid ((kk : Int) = if T < kk + 1 then (T : Int) else -1) := Lib.hid (by rw [if_pos (by omega), hkT])
                  clear hfi htv hkT
                  go_wp2
                  go_quiet (fail)
                  go_wp2
                  exact ⟨⟨kk + 1, by omega, by go_num, by rw [← HE2.out], HP.out.drawn _⟩, by simp [intOf]; omega⟩
                · have hxy : fromB q len0 kk ≠ y := fun e => hkT (hfi.1 e)
                  have HE2 : Hid (tv = if T < kk + 1 then (T : Int) else -1) := Lib.hid (by
                    rw [htv]
                    by_cases g : T < kk
                    · rw [if_pos g, if_pos (by omega)]
                    · rw [if_neg g, if_neg (by omega)])
                  clear hfi htv hkT
                  generalize fromB q len0 kk = x at c0 hxy
                  have hb1 : ((x : Int) == (y : Int)) = false := beq_false_of_ne (by omega)
                  clear hxy
                  go_wp2
                  go_quiet (fail)
                  go_wp2
                  exact ⟨⟨kk + 1, by omega, by go_num, by rw [← HE2.out], HP.out.drawn _⟩, by simp [intOf]; omega⟩
              · obtain rfl : N = kk := by omega
                clear hP
                rw [if_pos hTN]
                go_wp2
                go_loopw [21, 22] (fun ld k wr => ∃ (kk : Nat) (b : Bool), kk ≤ (leadF q len0 t).length ∧ k = .int .i64 (kk : Int) ∧ ld = .bool b ∧ (b = true ∨ ∀ j, j < kk → (leadF q len0 t).getD j 0 ≠ T) ∧ RA w wB wr q len0 rb ro bg bo ab ao lb lo word K f) (fun _ k _ => (leadF q len0 t).length - (intOf k).toNat)
                case atStart => exact ⟨0, false, by omega, rfl, rfl, .inr fun j hj => absurd hj (Nat.not_lt_zero _), HP.out⟩
                case round =>
                  obtain ⟨kk, b, hkk, rfl, rfl, hbb, hQ⟩ := hrel
                  have HQ := Lib.hid hQ
                  clear HP
                  obtain ⟨An, cn, x2, x3⟩ := (hQ.blk (HNN.out ▸ htN)).2.2
                  have hl2 : (leadF q len0 t).length ≤ 2 := by unfold leadF; rw [List.length_map]; exact next_len _
                  obtain ⟨l, hl⟩ : ∃ l, l = leadF q len0 t := ⟨_, rfl⟩
                  rw [← hl] at x2 x3 hkk hbb hl2
                  have HLL := Lib.hid hl
                  clear hl hQ
                  by_cases hlk : kk < l.length
                  · have hlk' : (kk : Int) < (l.length : Int) := by omega
                    have hw2 : IntKind.i64.wrap ((kk : Int) + 1) = ((kk + 1 : Nat) : Int) := by rw [IntWalk.i64_in _ (by omega)]; omega
                    obtain ⟨b1, o1, rfl, _, e1⟩ := ints_cell x3 hlk
                    clear x3
                    have HGD : ∀ v, v = l.getD kk 0 → v ≠ T → (∀ j, j < kk → l.getD j 0 ≠ T) → ∀ j, j < kk + 1 → l.getD j 0 ≠ T := fun v hv hvT hno j hj => by
                      rcases Nat.lt_or_ge j kk with g | g
                      · exact hno j g
                      · rw [show j = kk by omega, ← hv]; exact hvT
                    have HGD := Lib.hid HGD
                    obtain ⟨v, hv⟩ : ∃ v, v = l.getD kk 0 := ⟨_, rfl⟩
                    rw [← hv] at e1
                    have HV := Lib.hid hv
                    clear hv
                    cases b with
                    | true =>
                      clear hbb
                      go_wp2
                      exact ⟨⟨kk + 1, true, by rw [← HLL.out]; omega, by go_num, rfl, .inl rfl, HQ.out⟩, by rw [← HLL.out]; simp [intOf]; omega⟩
                    | false =>
                      have HNO : Hid (∀ j, j < kk → l.getD j 0 ≠ T) := Lib.hid (hbb.resolve_left (by decide))
                      clear hbb
                      by_cases hvT : v = T
                      · have hb1 : ((v : Int) == (T : Int)) = true := by rw [hvT]; exact beq_self_eq_true _
                        clear hvT
                        go_wp2
                        exact ⟨⟨kk + 1, true, by rw [← HLL.out]; omega, by go_num, rfl, .inl rfl, HQ.out⟩, by rw [← HLL.out]; simp [intOf]; omega⟩
                      · have hb1 : ((v : Int) == (T : Int)) = false := beq_false_of_ne (by omega)
                        have HNE := Lib.hid hvT
                        clear hvT
                        go_wp2
                        exact ⟨⟨kk + 1, false, by rw [← HLL.out]; omega, by go_num, rfl, .inr (by rw [← HLL.out]; exact HGD.out v HV.out HNE.out HNO.out), HQ.out⟩, by rw [← HLL.out]; simp [intOf]; omega⟩
                  · have hlk' : ¬ (kk : Int) < (l.length : Int) := by omega
                    obtain rfl : b = true := by
                      rcases hbb with e | e
                      · exact e
                      · exfalso
                        have hmem : T ∈ l := by rw [HLL.out]; exact HLD.out
                        obtain ⟨j, hj, hjj⟩ := List.mem_iff_getElem.1 hmem
                        refine e j (by omega) ?_
                        rw [List.getD_eq_getElem?_getD, List.getElem?_eq_getElem hj]
                        exact hjj
                    clear hbb x3
                    have c3 : wr.cell? ⟨lb, lo + m, none⟩ = some (.int .i64 (p : Int)) := by rw [HPP.out]; exact HQ.out.plc hmK
                    have c4 : wr.cell? ⟨bg, bo + t * 3 + 1, none⟩ = some (.int .i64 (E : Int)) := by rw [HEE.out]; exact (HQ.out.blk (by rw [← HNN.out]; exact htN)).2.1
                    go_wp2
                    have hT0c : ¬ (T : Int) < 0 := by omega
                    have hT0b : decide ((T : Int) < 0) = false := decide_eq_false hT0c
                    have hT0d : ((T : Int) < 0) = False := eq_false hT0c
                    go_quiet (fail)
                    clear hT0b hT0c hT0d
                    have HR3 := Lib.hid (HQ.out.drawn nq)
                    clear c3 c4 x2
                    generalize wr.drewN nq = V3 at HR3 ⊢
                    have c5 := HR3.out.abv (HNN.out ▸ hTN)
                    have HAV : Hid (∀ c : Nat, (f c = true ∨ c = T) → c ≤ T → aboveF q len0 c = -1 ∨ ∃ c' : Nat, aboveF q len0 c = (c' : Int) ∧ c' < c ∧ c' < T ∧ f c' = true) := Lib.hid (fun c hc hcT => by
                      rcases above_been HDD.out hc with e | ⟨c', e1, e2, e3, e4⟩
                      · exact .inl e
                      · refine .inr ⟨c', e1, e2, by omega, ?_⟩
                        rcases e3 with e3 | e3
                        · exact e3
                        · omega)
                    have hav := HAV.out T (.inr rfl) (Nat.le_refl _)
                    generalize aboveF q len0 T = av at c5 hav
                    have hav2 : av = -1 ∨ ∃ c : Nat, av = (c : Int) ∧ c < T ∧ f c = true := by
                      rcases hav with e | ⟨c', e1, e2, e3, e4⟩
                      · exact .inl e
                      · exact .inr ⟨c', e1, e3, e4⟩
                    have HV2 := Lib.hid hav2
                    clear hav hav2
                    go_wp2
                    clear c5
                    go_loopw [23] (fun a wr => ∃ av : Int, a = .int .i64 av ∧ (av = -1 ∨ ∃ c : Nat, av = (c : Int) ∧ c < T ∧ f c = true) ∧ RA w wB wr q len0 rb ro bg bo ab ao lb lo word K f) (fun a _ => (intOf a + 1).toNat)
                    case atStart => exact ⟨av, rfl, HV2.out, HR3.out⟩
                    case round =>
                      obtain ⟨a, rfl, hav, hU⟩ := hrel
                      have HU := Lib.hid hU
                      clear HR3 HV2
                      rcases hav with rfl | ⟨c, rfl, hcT, hfc⟩
                      · have c6 := hU.row.cell (HNN.out ▸ hTN)
                        have c7 := hU.row.free T
                        clear hU
                        go_wp2
                        exact ⟨⟨i + 1, fun j => if j = T then true else f j, by omega, by go_num, HU.out.put T, .inr ⟨i, T, rfl, by rw [← HYY.out]; exact HTT.out, rfl, fun x hx => by
                          have conv : ∀ z, (if z = T then true else f z) = true ↔ (f z = true ∨ z = T) := fun z => by
                            by_cases g : z = T
                            · rw [if_pos g]; simp [g]
                            · rw [if_neg g]; simp [g]
                          obtain ⟨d1, d2⟩ := HDD.out x ((conv x).1 hx)
                          exact ⟨d1, fun c hc hf => ⟨(conv c).2 (d2 c hc hf).1, (d2 c hc hf).2⟩⟩, if_pos rfl⟩⟩, by simp [intOf]; omega⟩
                      · have hcN : c < N := by omega
                        have hcN' : (c : Int) < (N : Int) := by omega
                        have hc0 : (0 : Int) ≤ (c : Int) := by omega
                        have hcT' : ¬ (T : Int) ≤ (c : Int) := by omega
                        have c6 := hU.row.cell (HNN.out ▸ hcN)
                        rw [hfc] at c6
                        have c7 := hU.abv (HNN.out ▸ hcN)
                        have hav := HAV.out c (.inl hfc) (by omega)
                        clear hU hfc
                        generalize aboveF q len0 c = av2 at c7 hav
                        have HV3 := Lib.hid hav
                        clear hav
                        go_wp2
                        refine ⟨⟨av2, rfl, ?_, HU.out⟩, ?_⟩
                        · rcases HV3.out with e | ⟨c', e1, e2, e3, e4⟩
                          · exact .inl e
                          · exact .inr ⟨c', e1, e3, e4⟩
                        · rcases HV3.out with e | ⟨c', e1, e2, e3, e4⟩
                          · rw [e]; simp [intOf]
                          · rw [e1]; simp [intOf]; omega
          · have hq : ((y : Int) == (p : Int) + 1) = false := beq_false_of_ne (by omega)
            clear hyp wy1
            go_wp2
            go_quiet (fail)
            have HR2 := Lib.hid (HR.out.drawn nq)
            clear c1 c2 c3 c4
            generalize wr.drewN nq = V at HR2 ⊢
            go_wp2
            go_loopw [19, 20] (fun to k wr => ∃ kk : Nat, kk ≤ N ∧ k = .int .i64 (kk : Int) ∧ to = .int .i64 (if T < kk then (T : Int) else -1) ∧ RA w wB wr q len0 rb ro bg bo ab ao lb lo word K f) (fun _ k _ => N - (intOf k).toNat)
            case atStart => exact ⟨0, by omega, rfl, by rw [if_neg (by omega)], HR2.out⟩
            case round =>
              obtain ⟨kk, hkk, rfl, rfl, hP⟩ := hrel
              have HP := Lib.hid hP
              clear HR2
              by_cases hl : kk < N
              · have hl' : (kk : Int) < (N : Int) := by omega
                have hw2 : IntKind.i64.wrap ((kk : Int) + 1) = ((kk + 1 : Nat) : Int) := by rw [IntWalk.i64_in _ (by omega)]; omega
                have c0 := (hP.blk (HNN.out ▸ hl)).1
                have c1 := hP.plc hlt
                rw [← HYY.out] at c1
                clear hP
                have hfi := from_is HRY.out hyn (by rw [← HTT.out]; exact HFR.out) (HNN.out ▸ hl : kk < (blkF q len0).length)
                rw [← HTT.out] at hfi
                obtain ⟨tv, htv⟩ : ∃ tv : Int, tv = if T < kk then (T : Int) else -1 := ⟨_, rfl⟩
                rw [← htv]
                by_cases hkT : kk = T
                · rw [hfi.2 hkT] at c0
                  have hb1 : ((y : Int) == (y : Int)) = true := beq_self_eq_true _
                  have HE2 : Hid ((kk : Int) = if T < kk + 1 then (T : Int) else -1) := Lib.hid (by rw [if_pos (by omega), hkT])
                  clear hfi htv hkT
                  go_wp2
                  go_quiet (fail)
                  go_wp2
                  exact ⟨⟨kk + 1, by omega, by go_num, by rw [← HE2.out], HP.out.drawn _⟩, by simp [intOf]; omega⟩
                · have hxy : fromB q len0 kk ≠ y := fun e => hkT (hfi.1 e)
                  have HE2 : Hid (tv = if T < kk + 1 then (T : Int) else -1) := Lib.hid (by
                    rw [htv]
                    by_cases g : T < kk
                    · rw [if_pos g, if_pos (by omega)]
                    · rw [if_neg g, if_neg (by omega)])
                  clear hfi htv hkT
                  generalize fromB q len0 kk = x at c0 hxy
                  have hb1 : ((x : Int) == (y : Int)) = false := beq_false_of_ne (by omega)
                  clear hxy
                  go_wp2
                  go_quiet (fail)
                  go_wp2
                  exact ⟨⟨kk + 1, by omega, by go_num, by rw [← HE2.out], HP.out.drawn _⟩, by simp [intOf]; omega⟩
              · obtain rfl : N = kk := by omega
                clear hP
                rw [if_pos hTN]
                go_wp2
                go_loopw [21, 22] (fun ld k wr => ∃ (kk : Nat) (b : Bool), kk ≤ (leadF q len0 t).length ∧ k = .int .i64 (kk : Int) ∧ ld = .bool b ∧ (b = true ∨ ∀ j, j < kk → (leadF q len0 t).getD j 0 ≠ T) ∧ RA w wB wr q len0 rb ro bg bo ab ao lb lo word K f) (fun _ k _ => (leadF q len0 t).length - (intOf k).toNat)
                case atStart => exact ⟨0, false, by omega, rfl, rfl, .inr fun j hj => absurd hj (Nat.not_lt_zero _), HP.out⟩
                case round =>
                  obtain ⟨kk, b, hkk, rfl, rfl, hbb, hQ⟩ := hrel
                  have HQ := Lib.hid hQ
                  clear HP
                  obtain ⟨An, cn, x2, x3⟩ := (hQ.blk (HNN.out ▸ htN)).2.2
                  have hl2 : (leadF q len0 t).length ≤ 2 := by unfold leadF; rw [List.length_map]; exact next_len _
                  obtain ⟨l, hl⟩ : ∃ l, l = leadF q len0 t := ⟨_, rfl⟩
                  rw [← hl] at x2 x3 hkk hbb hl2
                  have HLL := Lib.hid hl
                  clear hl hQ
                  by_cases hlk : kk < l.length
                  · have hlk' : (kk : Int) < (l.length : Int) := by omega
                    have hw2 : IntKind.i64.wrap ((kk : Int) + 1) = ((kk + 1 : Nat) : Int) := by rw [IntWalk.i64_in _ (by omega)]; omega
                    obtain ⟨b1, o1, rfl, _, e1⟩ := ints_cell x3 hlk
                    clear x3
                    have HGD : ∀ v, v = l.getD kk 0 → v ≠ T → (∀ j, j < kk → l.getD j 0 ≠ T) → ∀ j, j < kk + 1 → l.getD j 0 ≠ T := fun v hv hvT hno j hj => by
                      rcases Nat.lt_or_ge j kk with g | g
                      · exact hno j g
                      · rw [show j = kk by omega, ← hv]; exact hvT
                    have HGD := Lib.hid HGD
                    obtain ⟨v, hv⟩ : ∃ v, v = l.getD kk 0 := ⟨_, rfl⟩
                    rw [← hv] at e1
                    have HV := Lib.hid hv
                    clear hv
                    cases b with
                    | true =>
                      clear hbb
                      go_wp2
                      exact ⟨⟨kk + 1, true, by rw [← HLL.out]; omega, by go_num, rfl, .inl rfl, HQ.out⟩, by rw [← HLL.out]; simp [intOf]; omega⟩
                    | false =>
                      have HNO : Hid (∀ j, j < kk → l.getD j 0 ≠ T) := Lib.hid (hbb.resolve_left (by decide))
                      clear hbb
                      by_cases hvT : v = T
                      · have hb1 : ((v : Int) == (T : Int)) = true := by rw [hvT]; exact beq_self_eq_true _
                        clear hvT
                        go_wp2
                        exact ⟨⟨kk + 1, true, by rw [← HLL.out]; omega, by go_num, rfl, .inl rfl, HQ.out⟩, by rw [← HLL.out]; simp [intOf]; omega⟩
                      · have hb1 : ((v : Int) == (T : Int)) = false := beq_false_of_ne (by omega)
                        have HNE := Lib.hid hvT
                        clear hvT
                        go_wp2
                        exact ⟨⟨kk + 1, false, by rw [← HLL.out]; omega, by go_num, rfl, .inr (by rw [← HLL.out]; exact HGD.out v HV.out HNE.out HNO.out), HQ.out⟩, by rw [← HLL.out]; simp [intOf]; omega⟩
                  · have hlk' : ¬ (kk : Int) < (l.length : Int) := by omega
                    obtain rfl : b = true := by
                      rcases hbb with e | e
                      · exact e
                      · exfalso
                        have hmem : T ∈ l := by rw [HLL.out]; exact HLD.out
                        obtain ⟨j, hj, hjj⟩ := List.mem_iff_getElem.1 hmem
                        refine e j (by omega) ?_
                        rw [List.getD_eq_getElem?_getD, List.getElem?_eq_getElem hj]
                        exact hjj
                    clear hbb x3
                    have c3 : wr.cell? ⟨lb, lo + m, none⟩ = some (.int .i64 (p : Int)) := by rw [HPP.out]; exact HQ.out.plc hmK
                    have c4 : wr.cell? ⟨bg, bo + t * 3 + 1, none⟩ = some (.int .i64 (E : Int)) := by rw [HEE.out]; exact (HQ.out.blk (by rw [← HNN.out]; exact htN)).2.1
                    go_wp2
                    have hT0c : ¬ (T : Int) < 0 := by omega
                    have hT0b : decide ((T : Int) < 0) = false := decide_eq_false hT0c
                    have hT0d : ((T : Int) < 0) = False := eq_false hT0c
                    go_quiet (fail)
                    clear hT0b hT0c hT0d
                    have HR3 := Lib.hid (HQ.out.drawn nq)
                    clear c3 c4 x2
                    generalize wr.drewN nq = V3 at HR3 ⊢
                    have c5 := HR3.out.abv (HNN.out ▸ hTN)
                    have HAV : Hid (∀ c : Nat, (f c = true ∨ c = T) → c ≤ T → aboveF q len0 c = -1 ∨ ∃ c' : Nat, aboveF q len0 c = (c' : Int) ∧ c' < c ∧ c' < T ∧ f c' = true) := Lib.hid (fun c hc hcT => by
                      rcases above_been HDD.out hc with e | ⟨c', e1, e2, e3, e4⟩
                      · exact .inl e
                      · refine .inr ⟨c', e1, e2, by omega, ?_⟩
                        rcases e3 with e3 | e3
                        · exact e3
                        · omega)
                    have hav := HAV.out T (.inr rfl) (Nat.le_refl _)
                    generalize aboveF q len0 T = av at c5 hav
                    have hav2 : av = -1 ∨ ∃ c : Nat, av = (c : Int) ∧ c < T ∧ f c = true := by
                      rcases hav with e | ⟨c', e1, e2, e3, e4⟩
                      · exact .inl e
                      · exact .inr ⟨c', e1, e3, e4⟩
                    have HV2 := Lib.hid hav2
                    clear hav hav2
                    go_wp2
                    clear c5
                    go_loopw [23] (fun a wr => ∃ av : Int, a = .int .i64 av ∧ (av = -1 ∨ ∃ c : Nat, av = (c : Int) ∧ c < T ∧ f c = true) ∧ RA w wB wr q len0 rb ro bg bo ab ao lb lo word K f) (fun a _ => (intOf a + 1).toNat)
                    case atStart => exact ⟨av, rfl, HV2.out, HR3.out⟩
                    case round =>
                      obtain ⟨a, rfl, hav, hU⟩ := hrel
                      have HU := Lib.hid hU
                      clear HR3 HV2
                      rcases hav with rfl | ⟨c, rfl, hcT, hfc⟩
                      · have c6 := hU.row.cell (HNN.out ▸ hTN)
                        have c7 := hU.row.free T
                        clear hU
                        go_wp2
                        exact ⟨⟨i + 1, fun j => if j = T then true else f j, by omega, by go_num, HU.out.put T, .inr ⟨i, T, rfl, by rw [← HYY.out]; exact HTT.out, rfl, fun x hx => by
                          have conv : ∀ z, (if z = T then true else f z) = true ↔ (f z = true ∨ z = T) := fun z => by
                            by_cases g : z = T
                            · rw [if_pos g]; simp [g]
                            · rw [if_neg g]; simp [g]
                          obtain ⟨d1, d2⟩ := HDD.out x ((conv x).1 hx)
                          exact ⟨d1, fun c hc hf => ⟨(conv c).2 (d2 c hc hf).1, (d2 c hc hf).2⟩⟩, if_pos rfl⟩⟩, by simp [intOf]; omega⟩
                      · have hcN : c < N := by omega
                        have hcN' : (c : Int) < (N : Int) := by omega
                        have hc0 : (0 : Int) ≤ (c : Int) := by omega
                        have hcT' : ¬ (T : Int) ≤ (c : Int) := by omega
                        have c6 := hU.row.cell (HNN.out ▸ hcN)
                        rw [hfc] at c6
                        have c7 := hU.abv (HNN.out ▸ hcN)
                        have hav := HAV.out c (.inl hfc) (by omega)
                        clear hU hfc
                        generalize aboveF q len0 c = av2 at c7 hav
                        have HV3 := Lib.hid hav
                        clear hav
                        go_wp2
                        refine ⟨⟨av2, rfl, ?_, HU.out⟩, ?_⟩
                        · rcases HV3.out with e | ⟨c', e1, e2, e3, e4⟩
                          · exact .inl e
                          · exact .inr ⟨c', e1, e3, e4⟩
                        · rcases HV3.out with e | ⟨c', e1, e2, e3, e4⟩
                          · rw [e]; simp [intOf]
                          · rw [e1]; simp [intOf]; omega
    · obtain rfl : K = i := by omega
      clear hR hst
      go_wp2
      go_ret
      exact ⟨rfl, HR.out.base.top.trans (HR.out.bel.mono HR.out.base.top.size)⟩

/-! ### The row's step and the statement -/
set_option maxRecDepth 100000 in
theorem lifted (os : Os) (started : os.Started) (H : Type) (enc : TypeId × Value → H) :
    ReturnsInHanded {} Try.checked os 5 .any (Rows.flowRunsSpec.pre6 enc Try.prog Try.f5 Rows.flowRunsRow.domain false) (Rows.flowRunsSpec.post enc Try.prog Try.f5 false true false false) := by
  refine returnsInHanded_of_change_sized (C := Try.checked) own started (by kernel_rfl) Try.func5
    (ChangeSpec.witness6 (enc := enc) (C := Try.checked) false ⟨#[], #[.slice none 0 0, .slice none 0 0], []⟩ 8 (by kernel_rfl) (by kernel_rfl) (by kernel_rfl) (by kernel_rfl)) ?_
  intro W base args ds gs before hval0 hW hcnd hsz0 _
  have hsz : (DataW.weightsEach Try.prog (Try.f5.params.toList ++ Rows.flowRunsSpec.plain.varTypes Try.prog) (ds ++ gs)).all (· ≤ reachBytes) = true := hsz0
  clear hsz0
  have hval : ∀ (j : Nat) t v, Try.f5.params[j]? = some t → args[j]? = some v → Value.okWide Try.prog W .any base t v := hval0
  have hW' := hW
  obtain ⟨p, q, hA0, hV, rfl, hfz, hnd⟩ := hW
  have hA : DataW.TrodAll enc Try.prog W 0 (fun _ => true) true Try.f5.params.toList args.toList ds p := hA0
  rw [Try.params5] at hA hval hsz
  obtain ⟨v0, vs0, d0, ds0, p0, q0, hargs, rfl, rfl, h0, r0⟩ := trodAll_cons hA
  obtain ⟨v1, vs1, d1, ds1, p1, q1, rfl, rfl, rfl, h1, r1⟩ := trodAll_cons r0
  obtain ⟨rfl, rfl, rfl⟩ := trodAll_nil r1
  obtain rfl : args = #[v0, v1] := by cases args; simp_all
  obtain ⟨rfl, rfl⟩ := trodVars_none hV
  obtain ⟨a0, len0, cap0, rfl⟩ := okWide_slice Try.underlying22 (hval 0 22 v0 rfl rfl)
  have k0 := h0
  have lt0 : ∀ x ∈ p0, x.block < W.heap.size := by obtain ⟨m, hm⟩ := k0; exact DataW.trod_lt m _ _ _ hm
  have w0 : RowsOf [.u16, .u8, .u8, .u32] W a0 len0 := by
    obtain ⟨fuel, hf⟩ := h0
    rcases rows_fields Try.underlying22 Try.underlying56 (by kernel_rfl) (by kernel_rfl) hf with hcs | ⟨x, l, c, hcs, hl, hm, hi⟩
    · simp [Value.cells] at hcs
      obtain ⟨rfl, rfl, rfl⟩ := hcs
      exact .inl ⟨rfl, rfl⟩
    · simp [Value.cells] at hcs
      obtain ⟨rfl, rfl, rfl⟩ := hcs
      refine .inr ⟨_, rfl, Nat.le_trans hl hm, fun i hil j K hK => ?_⟩
      match j, hK with
      | 0, hK =>
        obtain ⟨v, y, n, hc, ht⟩ := hi i hil 0 _ rfl
        obtain ⟨z, e, _, wz⟩ := DataW.trod_int Try.underlying53 ht
        simp only [List.cons.injEq, and_true] at e; subst e
        obtain rfl := Option.some.inj hK
        exact ⟨z, hc, wz⟩
      | 1, hK =>
        obtain ⟨v, y, n, hc, ht⟩ := hi i hil 1 _ rfl
        obtain ⟨z, e, _, wz⟩ := DataW.trod_int Try.underlying5 ht
        simp only [List.cons.injEq, and_true] at e; subst e
        obtain rfl := Option.some.inj hK
        exact ⟨z, hc, wz⟩
      | 2, hK =>
        obtain ⟨v, y, n, hc, ht⟩ := hi i hil 2 _ rfl
        obtain ⟨z, e, _, wz⟩ := DataW.trod_int Try.underlying5 ht
        simp only [List.cons.injEq, and_true] at e; subst e
        obtain rfl := Option.some.inj hK
        exact ⟨z, hc, wz⟩
      | 3, hK =>
        obtain ⟨v, y, n, hc, ht⟩ := hi i hil 3 _ rfl
        obtain ⟨z, e, _, wz⟩ := DataW.trod_int Try.underlying54 ht
        simp only [List.cons.injEq, and_true] at e; subst e
        obtain rfl := Option.some.inj hK
        exact ⟨z, hc, wz⟩
      | _ + 4, hK => exact absurd hK (by simp)
  have s0 : len0 * 8 ≤ 140737488351232 := by
    obtain ⟨fuel, hf⟩ := h0
    rcases rows_sized Try.underlying22 hf with hcs | ⟨x, l, c, elems, rest, hcs, hd, hle⟩
    · simp [Value.cells] at hcs
      obtain ⟨rfl, rfl, rfl⟩ := hcs
      omega
    · simp [Value.cells] at hcs
      obtain ⟨rfl, rfl, rfl⟩ := hcs
      have hr := sized_slice hsz (j := 0) (t := 22) (e := 56) rfl (congrArg some hd) Try.underlying22
      rw [show Try.prog.bytesOf 56 = 8 by kernel_rfl] at hr
      simp only [reachBytes] at hr
      have := Nat.mul_le_mul_right 8 hle
      omega
  obtain ⟨a1, len1, cap1, rfl⟩ := okWide_slice Try.underlying48 (hval 1 48 v1 rfl rfl)
  have k1 := h1
  have lt1 : ∀ x ∈ p1, x.block < W.heap.size := by obtain ⟨m, hm⟩ := k1; exact DataW.trod_lt m _ _ _ hm
  obtain ⟨z1, w1⟩ : ∃ zs, IsRow .u8 W a1 len1 cap1 zs ∧ cap1 * 1 ≤ 140737488351232 := by
    obtain ⟨fuel, hf⟩ := h1
    rcases open_ints Try.underlying48 Try.underlying5 (by kernel_rfl) hf with ⟨hcs, _⟩ | ⟨x, l, c, zs, hcs, _, hl, hm, hz, hx, hcell, hwz⟩
    · simp [Value.cells] at hcs
      obtain ⟨rfl, rfl, rfl⟩ := hcs
      exact ⟨[], ⟨.inl ⟨rfl, rfl, rfl, rfl⟩, by omega⟩⟩
    · simp [Value.cells] at hcs
      obtain ⟨rfl, rfl, rfl⟩ := hcs
      have hd : d1 = _ := congrArg Prod.fst hx
      have hr := sized_slice hsz (j := 1) (t := 48) (e := 5) rfl (congrArg some hd) Try.underlying48
      rw [show Try.prog.bytesOf 5 = 1 by kernel_rfl] at hr
      simp only [lits, List.length_map, List.length_take, List.length_drop, reachBytes] at hr
      have hzl : zs.length = _ := hz
      simp only [if_true] at hzl
      exact ⟨zs, ⟨.inr ⟨_, rfl, hl, hm, by simpa using hz, hcell, hwz⟩, by omega⟩⟩
  clear hA0 hval0
  refine (walk a0 len0 cap0 a1 len1 cap1 z1 W w0 s0 w1).mono fun e W' ⟨he, bel⟩ => ?_
  subst he
  exact ⟨_, rfl, _, _, _, [], _, [], hW', trodAll_mk1 (shut_bool Try.underlying4 _), (trodAll_cons_mk (Below.trod laidOut (by kernel_rfl) (of_decide_eq_true (by kernel_rfl)) k0 bel lt0) (trodAll_cons_mk (Below.trod laidOut (by kernel_rfl) (of_decide_eq_true (by kernel_rfl)) k1 bel lt1) trodAll_mk0)), rfl, bel.frame _, fun h => by cases h⟩

theorem over : Rows.flowRunsRow.holds Try.pinned (OpenSpec.ofChange Rows.flowRunsSpec) :=
  OpenClaim.holds_of_wide 5 Try.f5 rfl rfl rfl rfl rfl rfl rfl ⟨rfl, rfl, rfl, rfl, rfl⟩ rfl rfl rfl rfl rfl (by kernel_rfl) Try.func5 (by kernel_rfl)
    (of_decide_eq_true (by kernel_rfl)) (by unfold Func.isWrapper; first | (rw [if_pos (by decide +kernel)]; kernel_rfl) | (rw [if_neg (by decide +kernel)]; exact ⟨rfl, rfl⟩))
    (fun os started H enc _ => lifted os started H enc)

/-- The statement. -/
theorem proved : Rows.FlowRunsSaid := over
end Go.Proofs.Ytaphbcjehcnggaa.flowRuns
