/-
  'FlowTells': for every program, the law of layer 10 on what Reach, Blocks, Above and Longest tell returns true, and leaves memory as it was. No condition.
-/
import Derived.Test.YtaphbcjehcnggaaFlowProg
import Derived.Test.YtaphbcjehcnggaaRowsSized
import Derived.Test.YtaphbcjehcnggaaCbpfArgs
namespace Go.Proofs.Ytaphbcjehcnggaa.flowTells
open Go Go.ChangeShapes Go.WideShapes Go.ChangeAt Go.RowKit
set_option linter.unusedSimpArgs false
set_option linter.unusedVariables false

/-- What was lent, and what it was lent from. -/
structure TS (w W : World) (a0 : Option Addr) (n : Nat) (q : Nat → Ins) (g : Nat) : Prop where
  prog : ProgAt W a0 n q
  lent : ProgAt W (some ⟨g, 0, none⟩) n q
  mark : W.cell? ⟨g, n * 4, none⟩ = some (.int .u16 30583)
  bel : Below w.heap.size w W
  lt : g < W.heap.size
theorem TS.up {w W W' : World} {a0 : Option Addr} {n : Nat} {q : Nat → Ins} {g : Nat} (h : TS w W a0 n q g) (hb : Below W.heap.size W W') : TS w W' a0 n q g :=
  ⟨h.prog.below hb, h.lent.below hb, (hb.cell (p := ⟨g, n * 4, none⟩) h.lt).trans h.mark, h.bel.trans (hb.mono h.bel.size), Nat.lt_of_lt_of_le h.lt hb.size⟩
theorem blow {W : World} (k : Nat) : Below W.heap.size W (W.drewN k) := below_drawn (Below.refl _ _) k
/-- And what the program told. -/
structure TA (w W : World) (a0 : Option Addr) (n : Nat) (q : Nat → Ins) (g : Nat) (R Bk Ab : Option Addr) : Prop where
  ts : TS w W a0 n q g
  reach : Holds W R n fun i => .bool (reachF q n i)
  blks : BlksAt W Bk (blkF q n) (leadF q n)
  abv : Holds W Ab (blkF q n).length fun i => .int .i64 (aboveF q n i)
theorem TA.up {w W W' : World} {a0 : Option Addr} {n : Nat} {q : Nat → Ins} {g : Nat} {R Bk Ab : Option Addr} (h : TA w W a0 n q g R Bk Ab) (hb : Below W.heap.size W W') : TA w W' a0 n q g R Bk Ab :=
  ⟨h.ts.up hb, h.reach.below hb, h.blks.below hb, h.abv.below hb⟩
/-- And what the document's tell. -/
structure TB (w W : World) (a0 : Option Addr) (n : Nat) (q : Nat → Ins) (g : Nat) (R Bk Ab R' Bk' : Option Addr) : Prop where
  ta : TA w W a0 n q g R Bk Ab
  reach : Holds W R' n fun i => .bool (reachF q n i)
  blks : BlksAt W Bk' (blkF q n) (leadF q n)
theorem TB.up {w W W' : World} {a0 : Option Addr} {n : Nat} {q : Nat → Ins} {g : Nat} {R Bk Ab R' Bk' : Option Addr} (h : TB w W a0 n q g R Bk Ab R' Bk') (hb : Below W.heap.size W W') : TB w W' a0 n q g R Bk Ab R' Bk' :=
  ⟨h.ta.up hb, h.reach.below hb, h.blks.below hb⟩
set_option maxHeartbeats 1000000 in
set_option maxRecDepth 100000 in
theorem numbers_quiet {w : World} {A B : Option Addr} {l : List Nat} {ca cb : Nat} (n0 : Nat) (ha : IntsAt w A l) (hb : IntsAt w B l) (hn : l.length ≤ 2) :
    Calls Try.prog 11 #[.slice A l.length ca, .slice B l.length cb] (w.drewN n0) fun e w' => e = .returned (.bool true) ∧ ∃ m, w' = w.drewN m := by
  have HA := Lib.hid (And.intro ha hb)
  have hne : ((l.length : Int) != (l.length : Int)) = false := bne_self_eq_false _
  clear ha hb
  go_enter Try.func11, Try.ntmps11
  go_wp2
  go_loopw [5] (fun i wr => ∃ k : Nat, k ≤ l.length ∧ i = .int .i64 (k : Int) ∧ ∃ m, wr = w.drewN m) (fun i _ => l.length - (intOf i).toNat)
  case atStart => exact ⟨0, by omega, rfl, n0, rfl⟩
  case round =>
    obtain ⟨k, hk, rfl, m, hm⟩ := hrel
    have HM := Lib.hid hm
    have HH : Hid (IntsAt wr A l ∧ IntsAt wr B l) := Lib.hid (by rw [hm]; exact HA.out)
    clear hm
    by_cases hlt : k < l.length
    · have hlt' : (k : Int) < (l.length : Int) := by omega
      have hw1 : IntKind.i64.wrap ((k : Int) + 1) = ((k + 1 : Nat) : Int) := by rw [IntWalk.i64_in _ (by omega)]; omega
      obtain ⟨b1, o1, rfl, _, g1⟩ := ints_cell HH.out.1 hlt
      obtain ⟨b2, o2, rfl, _, g2⟩ := ints_cell HH.out.2 hlt
      generalize l.getD k 0 = y at g1 g2
      have hne2 : ((y : Int) != (y : Int)) = false := bne_self_eq_false _
      go_wp2
      go_quiet (fail)
      go_wp2
      exact ⟨⟨k + 1, by omega, by go_num, m + nq, by rw [HM.out, World.drewN_drewN]⟩, by simp [intOf]; omega⟩
    · obtain rfl : l.length = k := by omega
      go_wp2
      go_ret
      exact ⟨rfl, m, HM.out⟩
set_option maxHeartbeats 4000000 in
set_option maxRecDepth 100000 in
theorem walk (a0 : Option Addr) (len0 cap0 : Nat) (w : World) (w0 : RowsOf [.u16, .u8, .u8, .u32] w a0 len0) (s0 : len0 * 8 ≤ 140737488351232) :
    Calls Try.prog 4 #[.slice a0 len0 cap0] w fun e w' => e = .returned (.bool true) ∧ Below w.heap.size w w' := by
  obtain ⟨q, hp, ho⟩ := prog_of_rows w0
  clear w0
  have hn : len0 ≤ 17592186044416 := by omega
  have HP := Lib.hid hp
  have HACC := Lib.hid (fun V (hV : ProgAt V a0 len0 q) => r_Accepted cap0 hV ho)
  by_cases hE : checkE q len0 = 0
  · have hpos := (check_is.1 hE).pos
    have hmax := (check_is.1 hE).max
    have hd : decide (checkE q len0 = 0) = true := decide_eq_true hE
    rw [hd] at HACC
    have HR : Hid (∀ V g cap, ProgAt V (some ⟨g, 0, none⟩) len0 q → Calls Try.prog 14 #[.slice (some ⟨g, 0, none⟩) len0 cap] V fun e w' => ∃ A' c, e = .returned (.tuple #[.slice A' len0 c, .int .i64 0]) ∧ (Holds w' A' len0 fun i => .bool (reachF q len0 i)) ∧ Below V.heap.size V w') := Lib.hid (fun V g cap hV => by
      refine (p_Reach10 cap hV ho hn).mono ?_
      rintro e w' ⟨A', m, c, E, rfl, (⟨_, rfl, rfl, hh⟩ | ⟨h0, _⟩), hb⟩
      · exact ⟨A', c, rfl, hh, hb⟩
      · exact absurd hE h0)
    have HB : Hid (∀ V g cap, ProgAt V (some ⟨g, 0, none⟩) len0 q → Calls Try.prog 15 #[.slice (some ⟨g, 0, none⟩) len0 cap] V fun e w' => ∃ A' c, e = .returned (.tuple #[.slice A' (blkF q len0).length c, .int .i64 0]) ∧ BlksAt w' A' (blkF q len0) (leadF q len0) ∧ Below V.heap.size V w') := Lib.hid (fun V g cap hV => by
      refine (p_Blocks10 cap hV ho hn).mono ?_
      rintro e w' ⟨A', m, c, E, rfl, (⟨_, rfl, rfl, hh⟩ | ⟨h0, _⟩), hb⟩
      · exact ⟨A', c, rfl, hh, hb⟩
      · exact absurd hE h0)
    have HA : Hid (∀ V g cap, ProgAt V (some ⟨g, 0, none⟩) len0 q → Calls Try.prog 16 #[.slice (some ⟨g, 0, none⟩) len0 cap] V fun e w' => ∃ A' c, e = .returned (.tuple #[.slice A' (blkF q len0).length c, .int .i64 0]) ∧ (Holds w' A' (blkF q len0).length fun i => .int .i64 (aboveF q len0 i)) ∧ Below V.heap.size V w') := Lib.hid (fun V g cap hV => by
      refine (p_Above10 cap hV ho hn).mono ?_
      rintro e w' ⟨A', m, c, E, rfl, (⟨_, rfl, rfl, hh⟩ | ⟨h0, _⟩), hb⟩
      · exact ⟨A', c, rfl, hh, hb⟩
      · exact absurd hE h0)
    have HL : Hid (∀ V g cap, ProgAt V (some ⟨g, 0, none⟩) len0 q → Calls Try.prog 17 #[.slice (some ⟨g, 0, none⟩) len0 cap] V fun e w' => e = .returned (.tuple #[.int .i64 ((farF q len0 : Nat) : Int), .int .i64 0]) ∧ Below V.heap.size V w') := Lib.hid (fun V g cap hV => by
      refine (p_Longest10 cap hV ho hn).mono ?_
      rintro e w' ⟨m, E, rfl, (⟨_, rfl, rfl⟩ | ⟨h0, _⟩), hb⟩
      · exact ⟨rfl, hb⟩
      · exact absurd hE h0)
    have HR' := Lib.hid (fun V (hV : ProgAt V a0 len0 q) => r_Reach cap0 hV ho hpos hmax)
    have HB' := Lib.hid (fun V (hV : ProgAt V a0 len0 q) => r_Blocks cap0 hV ho hpos hmax)
    have HA' := Lib.hid (fun V (hV : ProgAt V a0 len0 q) => r_Above cap0 hV ho hpos hmax)
    have HL' := Lib.hid (fun V (hV : ProgAt V a0 len0 q) => r_Longest cap0 hV ho hpos hmax)
    have HN0 : Hid (∀ V A B ca cb, (Holds V A (blkF q len0).length fun i => .int .i64 (aboveF q len0 i)) → (Holds V B (blkF q len0).length fun i => .int .i64 (aboveF q len0 i)) → Calls Try.prog 11 #[.slice A (blkF q len0).length ca, .slice B (blkF q len0).length cb] V fun e w' => e = .returned (.bool true) ∧ Below V.heap.size V w') := Lib.hid (fun V A B ca cb h1 h2 => by
      have := blk_len (q := q) (n := len0) len0
      refine (l_numbers h1 h2 (Nat.le_trans this hn)).mono fun e w' h => ?_
      rw [eqN_true rfl (fun i _ => rfl)] at h
      exact h)
    have hNle := blk_len (q := q) (n := len0) len0
    obtain ⟨N, hN⟩ : ∃ N, N = (blkF q len0).length := ⟨_, rfl⟩
    have hNle : N ≤ len0 := by rw [hN]; exact hNle
    have HNN := Lib.hid hN
    rw [← hN] at HB HA HB' HA' HN0
    obtain ⟨X, hX⟩ : ∃ X, X = farF q len0 := ⟨_, rfl⟩
    rw [← hX] at HL HL'
    have hne1 : ((len0 : Int) != (len0 : Int)) = false := bne_self_eq_false _
    have hne2 : ((N : Int) != (N : Int)) = false := bne_self_eq_false _
    have hne3 : ((X : Int) != (X : Int)) = false := bne_self_eq_false _
    clear hp ho hd hE hN hX
    go_enter Try.func4, Try.ntmps4
    go_wp2_with (first
      | (go_at_call 21; (with_reducible refine (HL'.out _ H10.out.ta.ts.prog).mono ?_); rintro e w11 ⟨rfl, hb⟩; have H11 := Lib.hid (H10.out.up hb); clear hb)
      | (go_at_call 20; (with_reducible refine (HB'.out _ H9.out.1.ts.prog).mono ?_); rintro e w10 ⟨A10, c10, rfl, hh, hb⟩; have H10 := Lib.hid (show TB w w10 a0 len0 q g A3 A4 A5 (some ⟨w8.heap.size, 0, none⟩) A10 from ⟨H9.out.1.up hb, H9.out.2.below hb, hh⟩); clear hh hb)
      | (go_at_call 19; (with_reducible refine (HR'.out _ H8.out.ts.prog).mono ?_); rintro e w9 ⟨rfl, hh, hb⟩; have H9 := Lib.hid (And.intro (H8.out.up hb) (show Holds w9 (some ⟨w8.heap.size, 0, none⟩) len0 fun i => .bool (reachF q len0 i) from holds_of_row hh (Nat.le_refl _))); clear hh hb)
      | (go_at_call 18; (with_reducible refine (HACC.out _ H7.out.ts.prog).mono ?_); rintro e w8 ⟨rfl, hb⟩; have H8 := Lib.hid (H7.out.up hb); clear hb)
      | (go_at_call 13; (with_reducible refine (kept_is _ _ _ _ _ _ q s0 hc H6.out.ts.lent H6.out.ts.mark H6.out.ts.prog).mono ?_); rintro e w7 ⟨rfl, m7, hw7⟩; have H7 := Lib.hid (show TA w w7 a0 len0 q g A3 A4 A5 from hw7 ▸ H6.out.up (blow m7)); clear hw7)
      | (go_at_call 17; (with_reducible refine (HL.out _ _ _ H5.out.ts.lent).mono ?_); rintro e w6 ⟨rfl, hb⟩; have H6 := Lib.hid (H5.out.up hb); clear hb)
      | (go_at_call 16; (with_reducible refine (HA.out _ _ _ H4.out.1.lent).mono ?_); rintro e w5 ⟨A5, c5, rfl, hh, hb⟩; have H5 := Lib.hid (show TA w w5 a0 len0 q g A3 A4 A5 from ⟨H4.out.1.up hb, H4.out.2.1.below hb, H4.out.2.2.below hb, HNN.out ▸ hh⟩); clear hh hb)
      | (go_at_call 15; (with_reducible refine (HB.out _ _ _ H3.out.1.lent).mono ?_); rintro e w4 ⟨A4, c4, rfl, hh, hb⟩; have H4 := Lib.hid (And.intro (H3.out.1.up hb) (And.intro (H3.out.2.below hb) hh)); clear hh hb)
      | (go_at_call 14; (with_reducible refine (HR.out _ _ _ H2.out.lent).mono ?_); rintro e w3 ⟨A3, c3, rfl, hh, hb⟩; have H3 := Lib.hid (And.intro (H2.out.up hb) hh); clear hh hb)
      | (go_at_call 9; (with_reducible refine (lent_is _ _ _ _ q s0 H1.out.1).mono ?_); rintro e w2 ⟨g, capx, rfl, hlent⟩; obtain ⟨F, hr, hc, hm, hF, h77, hb, hge⟩ := hlent; have H2 := Lib.hid (show TS w w2 a0 len0 q g from ⟨H1.out.1.below hb, prog_of_row hr hF (by omega), (World.rowIs.cell hr (by omega)).trans (congrArg some h77), H1.out.2.trans (hb.mono H1.out.2.size), World.rowIs.lt hr⟩); clear hr hF h77 hb hge)
      | (go_at_call 8; (with_reducible refine (l_head10 _).mono ?_); rintro e w1 ⟨rfl, hb⟩; have H1 := Lib.hid (And.intro (HP.out.below hb) hb); clear hb))
    clear H1 H2 H3 H4 H5 H6 H7 H8 H9 H10 HP HR HB HA HL HR' HB' HL' HACC
    have HS := H11
    clear H11
    generalize w8.heap.size = r8 at HS ⊢
    go_loopw [17] (fun i wr => ∃ k : Nat, k ≤ len0 ∧ i = .int .i64 (k : Int) ∧ TB w wr a0 len0 q g A3 A4 A5 (some ⟨r8, 0, none⟩) A10) (fun i _ => len0 - (intOf i).toNat)
    case atStart => exact ⟨0, by omega, rfl, HS.out⟩
    case round =>
      obtain ⟨k, hk, rfl, hP⟩ := hrel
      have HP := Lib.hid hP
      clear HS
      by_cases hl : k < len0
      · have hl' : (k : Int) < (len0 : Int) := by omega
        have hw2 : IntKind.i64.wrap ((k : Int) + 1) = ((k + 1 : Nat) : Int) := by rw [IntWalk.i64_in _ (by omega)]; omega
        obtain ⟨rb, ro, rfl, hrl, hrc⟩ := hP.ta.reach (by omega)
        obtain ⟨sb, so, hse, hsl, hsc⟩ := hP.reach (by omega)
        injection hse with hse; injection hse with hs1 hs2; subst hs1; subst hs2
        have c0 : wr.cell? ⟨rb, ro + k, none⟩ = some (.bool (reachF q len0 k)) := hrc k hl
        have c1 : wr.cell? ⟨r8, k, none⟩ = some (.bool (reachF q len0 k)) := by have := hsc k hl; rwa [Nat.zero_add] at this
        clear hP hrc hsc
        cases hr : reachF q len0 k with
        | true =>
          rw [hr] at c0 c1
          clear hr
          go_wp2
          go_quiet (fail)
          go_wp2
          exact ⟨⟨k + 1, by omega, by go_num, HP.out.up (blow _)⟩, by simp [intOf]; omega⟩
        | false =>
          rw [hr] at c0 c1
          clear hr
          go_wp2
          go_quiet (fail)
          go_wp2
          exact ⟨⟨k + 1, by omega, by go_num, HP.out.up (blow _)⟩, by simp [intOf]; omega⟩
      · clear hP
        go_wp2
        go_loopw [18] (fun i wr => ∃ k : Nat, k ≤ N ∧ i = .int .i64 (k : Int) ∧ TB w wr a0 len0 q g A3 A4 A5 (some ⟨r8, 0, none⟩) A10) (fun i _ => N - (intOf i).toNat)
        case atStart => exact ⟨0, by omega, rfl, HP.out⟩
        case round =>
          obtain ⟨b, hb, rfl, hR⟩ := hrel
          have HR := Lib.hid hR
          clear HP
          by_cases hlt : b < N
          · have hlt' : (b : Int) < (N : Int) := by omega
            have hw1 : IntKind.i64.wrap ((b : Int) + 1) = ((b + 1 : Nat) : Int) := by rw [IntWalk.i64_in _ (by omega)]; omega
            have hlb : b < (blkF q len0).length := by rw [← HNN.out]; exact hlt
            obtain ⟨g1, o1, rfl, _, hg1⟩ := hR.ta.blks
            obtain ⟨g2, o2, rfl, _, hg2⟩ := hR.blks
            obtain ⟨x0, x1, An, cn, x2, x3⟩ := hg1 b hlb
            obtain ⟨y0, y1, Am, cm, y2, y3⟩ := hg2 b hlb
            have hll : (leadF q len0 b).length ≤ 2 := by unfold leadF; rw [List.length_map]; exact next_len _
            clear hR hg1 hg2 hlb
            generalize leadF q len0 b = l at x2 x3 y2 y3 hll
            generalize ((blkF q len0).getD b (0, 0)).1 = F at x0 y0
            generalize ((blkF q len0).getD b (0, 0)).2 = T at x1 y1
            have f1 : ((F : Int) != (F : Int)) = false := bne_self_eq_false _
            have f2 : ((T : Int) != (T : Int)) = false := bne_self_eq_false _
            have HY := Lib.hid (And.intro (And.intro x0 x1) (And.intro y0 y1))
            have HI := Lib.hid (And.intro x3 y3)
            clear x0 x1 x3 y0 y1 y3
            go_wp2
            go_quiet ((go_at_call 11; exact numbers_quiet _ HI.out.1 HI.out.2 hll))
            have HR2 := Lib.hid (HR.out.up (blow nq))
            have x0 : (wr.drewN nq).cell? ⟨g1, o1 + b * 3, none⟩ = some (.int .i64 (F : Int)) := HY.out.1.1
            have x1 : (wr.drewN nq).cell? ⟨g1, o1 + b * 3 + 1, none⟩ = some (.int .i64 (T : Int)) := HY.out.1.2
            have y0 : (wr.drewN nq).cell? ⟨g2, o2 + b * 3, none⟩ = some (.int .i64 (F : Int)) := HY.out.2.1
            have y1 : (wr.drewN nq).cell? ⟨g2, o2 + b * 3 + 1, none⟩ = some (.int .i64 (T : Int)) := HY.out.2.2
            clear x2 y2 HR HY HI
            generalize wr.drewN nq = V at HR2 x0 x1 y0 y1 ⊢
            go_wp2
            go_quiet (fail)
            go_wp2
            exact ⟨⟨b + 1, by omega, by go_num, HR2.out.up (blow _)⟩, by simp [intOf]; omega⟩
          · clear hR
            go_wp2_with (first
              | (go_at_call 11; (with_reducible refine (HN0.out _ _ _ _ _ (HNN.out ▸ H12.out.ta.abv) H13.out).mono ?_); rintro e w13 ⟨rfl, hb⟩; have H14 := Lib.hid (H12.out.up hb); clear hb)
              | (go_at_call 22; (with_reducible refine (HA'.out _ HR.out.ta.ts.prog).mono ?_); rintro e w12 ⟨b12, rfl, hh, hb⟩; have H12 := Lib.hid (HR.out.up hb); have H13 := Lib.hid hh.holds; clear hh hb))
            go_ret
            exact ⟨rfl, H14.out.ta.ts.bel⟩
  · have hd : decide (checkE q len0 = 0) = false := decide_eq_false hE
    rw [hd] at HACC
    have HR : Hid (∀ V g cap, ProgAt V (some ⟨g, 0, none⟩) len0 q → Calls Try.prog 14 #[.slice (some ⟨g, 0, none⟩) len0 cap] V fun e w' => ∃ A' c, e = .returned (.tuple #[.slice A' 0 c, .int .i64 1]) ∧ Below V.heap.size V w') := Lib.hid (fun V g cap hV => by
      refine (p_Reach10 cap hV ho hn).mono ?_
      rintro e w' ⟨A', m, c, E, rfl, (⟨h0, _⟩ | ⟨_, rfl, rfl⟩), hb⟩
      · exact absurd h0 hE
      · exact ⟨A', c, rfl, hb⟩)
    have HB : Hid (∀ V g cap, ProgAt V (some ⟨g, 0, none⟩) len0 q → Calls Try.prog 15 #[.slice (some ⟨g, 0, none⟩) len0 cap] V fun e w' => ∃ A' c, e = .returned (.tuple #[.slice A' 0 c, .int .i64 1]) ∧ Below V.heap.size V w') := Lib.hid (fun V g cap hV => by
      refine (p_Blocks10 cap hV ho hn).mono ?_
      rintro e w' ⟨A', m, c, E, rfl, (⟨h0, _⟩ | ⟨_, rfl, rfl⟩), hb⟩
      · exact absurd h0 hE
      · exact ⟨A', c, rfl, hb⟩)
    have HA : Hid (∀ V g cap, ProgAt V (some ⟨g, 0, none⟩) len0 q → Calls Try.prog 16 #[.slice (some ⟨g, 0, none⟩) len0 cap] V fun e w' => ∃ A' c, e = .returned (.tuple #[.slice A' 0 c, .int .i64 1]) ∧ Below V.heap.size V w') := Lib.hid (fun V g cap hV => by
      refine (p_Above10 cap hV ho hn).mono ?_
      rintro e w' ⟨A', m, c, E, rfl, (⟨h0, _⟩ | ⟨_, rfl, rfl⟩), hb⟩
      · exact absurd h0 hE
      · exact ⟨A', c, rfl, hb⟩)
    have HL : Hid (∀ V g cap, ProgAt V (some ⟨g, 0, none⟩) len0 q → Calls Try.prog 17 #[.slice (some ⟨g, 0, none⟩) len0 cap] V fun e w' => e = .returned (.tuple #[.int .i64 0, .int .i64 1]) ∧ Below V.heap.size V w') := Lib.hid (fun V g cap hV => by
      refine (p_Longest10 cap hV ho hn).mono ?_
      rintro e w' ⟨m, E, rfl, (⟨h0, _⟩ | ⟨_, rfl, rfl⟩), hb⟩
      · exact absurd h0 hE
      · exact ⟨rfl, hb⟩)
    clear hp ho hE hd
    go_enter Try.func4, Try.ntmps4
    go_wp2_with (first
      | (go_at_call 18; (with_reducible refine (HACC.out _ H7.out.prog).mono ?_); rintro e w8 ⟨rfl, hb⟩; have H8 := Lib.hid (H7.out.up hb); clear hb)
      | (go_at_call 13; (with_reducible refine (kept_is _ _ _ _ _ _ q s0 hc H6.out.lent H6.out.mark H6.out.prog).mono ?_); rintro e w7 ⟨rfl, m7, hw7⟩; have H7 := Lib.hid (show TS w w7 a0 len0 q g from hw7 ▸ H6.out.up (blow m7)); clear hw7)
      | (go_at_call 17; (with_reducible refine (HL.out _ _ _ H5.out.lent).mono ?_); rintro e w6 ⟨rfl, hb⟩; have H6 := Lib.hid (H5.out.up hb); clear hb)
      | (go_at_call 16; (with_reducible refine (HA.out _ _ _ H4.out.lent).mono ?_); rintro e w5 ⟨A5, c5, rfl, hb⟩; have H5 := Lib.hid (H4.out.up hb); clear hb)
      | (go_at_call 15; (with_reducible refine (HB.out _ _ _ H3.out.lent).mono ?_); rintro e w4 ⟨A4, c4, rfl, hb⟩; have H4 := Lib.hid (H3.out.up hb); clear hb)
      | (go_at_call 14; (with_reducible refine (HR.out _ _ _ H2.out.lent).mono ?_); rintro e w3 ⟨A3, c3, rfl, hb⟩; have H3 := Lib.hid (H2.out.up hb); clear hb)
      | (go_at_call 9; (with_reducible refine (lent_is _ _ _ _ q s0 H1.out.1).mono ?_); rintro e w2 ⟨g, capx, rfl, hlent⟩; obtain ⟨F, hr, hc, hm, hF, h77, hb, hge⟩ := hlent; have H2 := Lib.hid (show TS w w2 a0 len0 q g from ⟨H1.out.1.below hb, prog_of_row hr hF (by omega), (World.rowIs.cell hr (by omega)).trans (congrArg some h77), H1.out.2.trans (hb.mono H1.out.2.size), World.rowIs.lt hr⟩); clear hr hF h77 hb hge)
      | (go_at_call 8; (with_reducible refine (l_head10 _).mono ?_); rintro e w1 ⟨rfl, hb⟩; have H1 := Lib.hid (And.intro (HP.out.below hb) hb); clear hb))
    go_ret
    exact ⟨rfl, H8.out.bel⟩

/-! ### The row's step and the statement -/
set_option maxRecDepth 100000 in
theorem lifted (os : Os) (started : os.Started) (H : Type) (enc : TypeId × Value → H) :
    ReturnsInHanded {} Try.checked os 4 .any (Rows.flowTellsSpec.pre6 enc Try.prog Try.f4 Rows.flowTellsRow.domain false) (Rows.flowTellsSpec.post enc Try.prog Try.f4 false true false false) := by
  refine returnsInHanded_of_change_sized (C := Try.checked) own started (by kernel_rfl) Try.func4
    (ChangeSpec.witness6 (enc := enc) (C := Try.checked) false ⟨#[], #[.slice none 0 0], []⟩ 8 (by kernel_rfl) (by kernel_rfl) (by kernel_rfl) (by kernel_rfl)) ?_
  intro W base args ds gs before hval0 hW hcnd hsz0 _
  have hsz : (DataW.weightsEach Try.prog (Try.f4.params.toList ++ Rows.flowTellsSpec.plain.varTypes Try.prog) (ds ++ gs)).all (· ≤ reachBytes) = true := hsz0
  clear hsz0
  have hval : ∀ (j : Nat) t v, Try.f4.params[j]? = some t → args[j]? = some v → Value.okWide Try.prog W .any base t v := hval0
  have hW' := hW
  obtain ⟨p, q, hA0, hV, rfl, hfz, hnd⟩ := hW
  have hA : DataW.TrodAll enc Try.prog W 0 (fun _ => true) true Try.f4.params.toList args.toList ds p := hA0
  rw [Try.params4] at hA hval hsz
  obtain ⟨v0, vs0, d0, ds0, p0, q0, hargs, rfl, rfl, h0, r0⟩ := trodAll_cons hA
  obtain ⟨rfl, rfl, rfl⟩ := trodAll_nil r0
  obtain rfl : args = #[v0] := by cases args; simp_all
  obtain ⟨rfl, rfl⟩ := trodVars_none hV
  obtain ⟨a0, len0, cap0, rfl⟩ := okWide_slice Try.underlying22 (hval 0 22 v0 rfl rfl)
  have k0 := h0
  have lt0 : ∀ x ∈ p0, x.block < W.heap.size := by obtain ⟨m, hm⟩ := k0; exact DataW.trod_lt m _ _ _ hm
  have w0 : RowsOf [.u16, .u8, .u8, .u32] W a0 len0 := by
    obtain ⟨fuel, hf⟩ := h0
    rcases rows_fields Try.underlying22 Try.underlying56 (by kernel_rfl) (by kernel_rfl) hf with hcs | ⟨x, l, c, hcs, hl, hm, hi⟩
    · simp [Value.cells] at hcs
      obtain ⟨rfl, rfl, rfl⟩ := hcs
      exact .inl ⟨rfl, rfl⟩
    · simp [Value.cells] at hcs
      obtain ⟨rfl, rfl, rfl⟩ := hcs
      refine .inr ⟨_, rfl, Nat.le_trans hl hm, fun i hil j K hK => ?_⟩
      match j, hK with
      | 0, hK =>
        obtain ⟨v, y, n, hc, ht⟩ := hi i hil 0 _ rfl
        obtain ⟨z, e, _, wz⟩ := DataW.trod_int Try.underlying53 ht
        simp only [List.cons.injEq, and_true] at e; subst e
        obtain rfl := Option.some.inj hK
        exact ⟨z, hc, wz⟩
      | 1, hK =>
        obtain ⟨v, y, n, hc, ht⟩ := hi i hil 1 _ rfl
        obtain ⟨z, e, _, wz⟩ := DataW.trod_int Try.underlying5 ht
        simp only [List.cons.injEq, and_true] at e; subst e
        obtain rfl := Option.some.inj hK
        exact ⟨z, hc, wz⟩
      | 2, hK =>
        obtain ⟨v, y, n, hc, ht⟩ := hi i hil 2 _ rfl
        obtain ⟨z, e, _, wz⟩ := DataW.trod_int Try.underlying5 ht
        simp only [List.cons.injEq, and_true] at e; subst e
        obtain rfl := Option.some.inj hK
        exact ⟨z, hc, wz⟩
      | 3, hK =>
        obtain ⟨v, y, n, hc, ht⟩ := hi i hil 3 _ rfl
        obtain ⟨z, e, _, wz⟩ := DataW.trod_int Try.underlying54 ht
        simp only [List.cons.injEq, and_true] at e; subst e
        obtain rfl := Option.some.inj hK
        exact ⟨z, hc, wz⟩
      | _ + 4, hK => exact absurd hK (by simp)
  have s0 : len0 * 8 ≤ 140737488351232 := by
    obtain ⟨fuel, hf⟩ := h0
    rcases rows_sized Try.underlying22 hf with hcs | ⟨x, l, c, elems, rest, hcs, hd, hle⟩
    · simp [Value.cells] at hcs
      obtain ⟨rfl, rfl, rfl⟩ := hcs
      omega
    · simp [Value.cells] at hcs
      obtain ⟨rfl, rfl, rfl⟩ := hcs
      have hr := sized_slice hsz (j := 0) (t := 22) (e := 56) rfl (congrArg some hd) Try.underlying22
      rw [show Try.prog.bytesOf 56 = 8 by kernel_rfl] at hr
      simp only [reachBytes] at hr
      have := Nat.mul_le_mul_right 8 hle
      omega
  clear hA0 hval0
  refine (walk a0 len0 cap0 W w0 s0).mono fun e W' ⟨he, bel⟩ => ?_
  subst he
  exact ⟨_, rfl, _, _, _, [], _, [], hW', trodAll_mk1 (shut_bool Try.underlying4 _), (trodAll_cons_mk (Below.trod laidOut (by kernel_rfl) (of_decide_eq_true (by kernel_rfl)) k0 bel lt0) trodAll_mk0), rfl, bel.frame _, fun h => by cases h⟩

theorem over : Rows.flowTellsRow.holds Try.pinned (OpenSpec.ofChange Rows.flowTellsSpec) :=
  OpenClaim.holds_of_wide 4 Try.f4 rfl rfl rfl rfl rfl rfl rfl ⟨rfl, rfl, rfl, rfl, rfl⟩ rfl rfl rfl rfl rfl (by kernel_rfl) Try.func4 (by kernel_rfl)
    (of_decide_eq_true (by kernel_rfl)) (by unfold Func.isWrapper; first | (rw [if_pos (by decide +kernel)]; kernel_rfl) | (rw [if_neg (by decide +kernel)]; exact ⟨rfl, rfl⟩))
    (fun os started H enc _ => lifted os started H enc)

/-- The statement. -/
theorem proved : Rows.FlowTellsSaid := over
end Go.Proofs.Ytaphbcjehcnggaa.flowTells
